/-
  The walk of slices.insertionSortCmpFunc at api.Blob.
-/
import Derived.Test.YtdjknefbaclleaaGreatDoorStlA
namespace Go.Proofs.YtdjknefbaclleaaGreatDoor
open Go.RowKit Go.Lib Go.Sort

set_option maxHeartbeats 4000000 in
set_option maxRecDepth 1000000 in
theorem StlInsertion {α : Type} [Inhabited α] (enc : α → List Value) (cf : α → α → Int) (g : Nat) (blk off cap a b : Nat) (d0 d : Array α) (w0 w : World)
    (eg : ∀ args w, (callFunc g args).run Tryz.prog w = .ok (.enter g args) w) (kc : Nat) (aE : ∀ w, (isAgg 50).run Tryz.prog w = .ok true w) (zE : ∀ w, (Go.sizeOf 50).run Tryz.prog w = .ok kc w) (hcmp : CmpLays Tryz.prog g #[] enc kc cf blk off d0.size w0)
    (R : RowK enc kc w0 blk off d0) (hs : d0.size = d.size) (S : SWK enc kc w0 blk off d w) (hab : a ≤ b) (hb : b ≤ d.size) (hsz : d.size < 4611686018427387904) :
    Calls Tryz.prog 113 #[.slice (some ⟨blk, off, none⟩) d.size cap, .int .i64 a, .int .i64 b, .func (.func g) #[] #[]] w fun e w' =>
      e = .returned (.tuple #[]) ∧ SWK enc kc w0 blk off (Sort.insertionSort (ltOf cf) d a b) w' := by
  have mixed : Tryz.prog.follows .mixedOrders = true := by kernel_rfl
  have S0 : Aside _ := S
  have HC : Aside _ := hcmp
  have hs' : d0.size ≤ d.size ∧ d.size ≤ d0.size := by omega
  clear S hs hcmp
  go_enter Tryz.func113, Tryz.ntmps113
  go_wp2_with fail
  go_loopg [8] (b - a) (fun g1 vi wr => ∃ (i : Nat) (dk : Array α), vi = .int .i64 i ∧ a < i ∧ i ≤ b + 1 ∧ b + 1 - i ≤ g1 + 1 ∧ (dk.size ≤ d.size ∧ d.size ≤ dk.size) ∧ Aside (SWK enc kc w0 blk off dk wr) ∧ Hid (insOuter (ltOf cf) a b i dk = insOuter (ltOf cf) a b (a + 1) d))
  case atStart => exact ⟨a + 1, d, by go_num, by omega, by omega, by omega, ⟨Nat.le_refl _, Nat.le_refl _⟩, S0, rfl⟩
  case round =>
    clear S0
    obtain ⟨i, dk, rfl, hai, hib, hg1, hsk, S1, HO⟩ := hrel
    by_cases hlt : i < b
    · have hd : decide ((i : Int) < (b : Int)) = true := by simp; omega
      go_wp2_with fail
      go_loopg [9] i (fun g2 vj wr2 => ∃ (j : Nat) (dj : Array α), vj = .int .i64 j ∧ a ≤ j ∧ j ≤ i ∧ j ≤ g2 ∧ (dj.size ≤ d.size ∧ d.size ≤ dj.size) ∧ Aside (SWK enc kc w0 blk off dj wr2) ∧ Hid (insInner (ltOf cf) a j dj = insInner (ltOf cf) a i dk))
      case atStart => exact ⟨i, dk, rfl, by omega, Nat.le_refl _, Nat.le_refl _, hsk, S1, rfl⟩
      case round =>
        clear S1
        obtain ⟨j, dj, rfl, haj, hji, hg2, hsj, S1, HI⟩ := hrel
        have out : (j ≤ a ∨ ltOf cf dj[j]! dj[j - 1]! = false) → Hid (insOuter (ltOf cf) a b (i + 1) dj = insOuter (ltOf cf) a b (a + 1) d) := fun hs => by
          show _ = _
          rw [← HO.out, insOuter_go _ _ _ _ _ hlt, ← HI.out, insInner_stop _ _ _ _ hs]
        have OUT : Aside _ := out
        clear out hd
        by_cases hja : a < j
        · have hjd : decide ((j : Int) > (a : Int)) = true := by simp; omega
          have hjd2 : decide ((a : Int) < (j : Int)) = true := by simp; omega
          have go : ltOf cf dj[j]! dj[j - 1]! = true → Hid (insInner (ltOf cf) a (j - 1) (swp dj j (j - 1)) = insInner (ltOf cf) a i dk) := fun hl => by
            show _ = _
            rw [← HI.out, insInner_go (ltOf cf) a j dj hja hl]
          have GO : Aside _ := go
          clear go
          have HV : Aside ((cf dj[j]! dj[j - 1]! < 0 → ltOf cf dj[j]! dj[j - 1]! = true) ∧ (¬ cf dj[j]! dj[j - 1]! < 0 → ltOf cf dj[j]! dj[j - 1]! = false)) := ⟨fun h => decide_eq_true h, fun h => decide_eq_false h⟩
          have p1 : (0 : Int) ≤ (j : Int) := by omega
          have b1 : (j : Int) < (d.size : Int) := by omega
          have e2 : ((j : Int) - 1).toNat = j - 1 := by omega
          have p2 : (0 : Int) ≤ (j : Int) - 1 := by omega
          have b2 : (j : Int) - 1 < (d.size : Int) := by omega
          have r2 : IntKind.i64.wrap ((j : Int) - 1) = (j : Int) - 1 := by rw [IntKind.wrap_i64]; omega
          have q2 : (1 : Int) ≤ (j : Int) := by omega
          have lx1 := fun n os => S1.out.ld R (by omega) Tryz.prog (j) (by omega) n os
          have lz1 := fun n os => S1.out.ld R (by omega) Tryz.prog (j - 1) (by omega) n os
          have hc1 : ∀ n' os', Calls Tryz.prog g #[.agg (enc dj[j]!).toArray, .agg (enc dj[j - 1]!).toArray] (grow ((wr).drewN n') os') fun e w' => e = .returned (.int .i64 (cf dj[j]! dj[j - 1]!)) ∧ ∃ q os'', w' = grow ((grow ((wr).drewN n') os').drewN q) os'' := fun n' os' => by
            have h := S1.out.cmp HC.out (by omega) dj[j]! dj[j - 1]! n' os'
            exact h
          generalize enc dj[j]! = cI1 at lx1 hc1
          generalize enc dj[j - 1]! = cJ1 at lz1 hc1
          generalize cf dj[j]! dj[j - 1]! = v1 at *
          go_wp2_with fail
          go_quiet_grown (first | (go_at_fn g; refine Calls.grown_of (hc1 _ _)))
          have S2 : Aside (SWK enc kc w0 blk off dj (grow ((wr).drewN nq) osq)) := S1.out.grown nq osq
          clear lx1 lz1 hc1 S1
          generalize grow ((wr).drewN nq) osq = wq at S2 ⊢
          clear nq osq
          by_cases hlv : v1 < 0
          · have hdv : decide (v1 < 0) = true := by simp; omega
            have HL := Lib.hid (HV.out.1 (by omega))
            clear HV
            go_wp2_with fail
            have S3 : Aside (SWK enc kc w0 blk off (swp dj (j) (j - 1)) ((wq.drew.setCells blk (off + (j) * kc) (enc dj[j - 1]!)).setCells blk (off + (j - 1) * kc) (enc dj[j]!))) := S2.out.swapped R (j) (j - 1) (by omega) (by omega)
            have l2a := S2.out.ld1 R (by omega) Tryz.prog (j) (by omega)
            have l2b := S2.out.ld1 R (by omega) Tryz.prog (j - 1) (by omega)
            have s2a := S2.out.st1 R (by omega) Tryz.prog (j) (by omega) dj[j - 1]!
            have s2b := S2.out.st2 R (by omega) Tryz.prog (j) (j - 1) (by omega) (by omega) dj[j - 1]! dj[j]!
            have n2a : (enc dj[j]!).length = kc := R.hk _
            have n2b : (enc dj[j - 1]!).length = kc := R.hk _
            generalize enc dj[j]! = cI2 at S3 l2a s2b n2a
            generalize enc dj[j - 1]! = cJ2 at S3 l2b s2a s2b n2b
            clear S2
            go_wp2_with fail
            go_big_region_o
            clear l2a l2b s2a s2b n2a n2b
            generalize (wq.drew.setCells blk (off + (j) * kc) cJ2).setCells blk (off + (j - 1) * kc) cI2 = w3 at S3 ⊢
            have S3z : Aside (SWK enc kc w0 blk off (swp dj (j) (j - 1)) w3) := S3
            clear S3
            clear hlv hdv
            go_wp2_with fail
            go_roundg (j - 1)
            case measure => omega
            case rel => exact ⟨j - 1, swp dj j (j - 1), by first | go_num | (congr 1; omega), by omega, by omega, Nat.le_refl _, by rw [size_swp]; exact hsj, S3z, GO.out HL.out⟩
          · have hdv : decide (v1 < 0) = false := by simp; omega
            have h0v : 0 ≤ v1 := by omega
            have HL := Lib.hid (HV.out.2 (by omega))
            clear HV
            go_wp2_with fail
            go_roundg (b - (i + 1))
            case measure => omega
            case rel => exact ⟨i + 1, dj, by go_num, by omega, by omega, by omega, hsj, S2, OUT.out (Or.inr HL.out)⟩
        · have hjd : decide ((j : Int) > (a : Int)) = false := by simp; omega
          have hjd2 : decide ((a : Int) < (j : Int)) = false := by simp; omega
          have S2 := S1.out.drew
          have S3 : Aside _ := S2
          clear S2
          go_wp2_with fail
          go_big_region
          all_goals go_wp2_with fail
          go_roundg (b - (i + 1))
          case measure => omega
          case rel => exact ⟨i + 1, dj, by go_num, by omega, by omega, by omega, hsj, S3, OUT.out (Or.inl (by omega))⟩
    · have hd : decide ((i : Int) < (b : Int)) = false := by simp; omega
      go_wp2_with fail
      go_end0
      exact ⟨rfl, by
        have e : Sort.insertionSort (ltOf cf) d a b = dk := by unfold Sort.insertionSort; rw [← HO.out, insOuter_stop _ _ _ _ _ hlt]
        rw [e]; exact S1.out⟩
end Go.Proofs.YtdjknefbaclleaaGreatDoor
