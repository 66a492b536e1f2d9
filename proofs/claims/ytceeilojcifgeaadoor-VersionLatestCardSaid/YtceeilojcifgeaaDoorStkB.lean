/-
  The walk of slices.insertionSortCmpFunc at version.keyed.
-/
import Derived.Test.YtceeilojcifgeaaDoorStkA
namespace Go.Proofs.YtceeilojcifgeaaDoor
open Go.RowKit Go.Lib Go.Sort

theorem stk2g {α : Type} [Inhabited α] {enc : α → List Value} {blk off : Nat} {d0 dk : Array α} {w0 W : World} (h : SWK enc 2 w0 blk off dk W) (R : RowK enc 2 w0 blk off d0) (E2 : ∀ x, ∃ p q, enc x = [.string p, .string q]) (hs : dk.size = d0.size) (i : Nat) (hi : i < dk.size) :
    ∃ x y, enc dk[i]! = [.string x, .string y] ∧ (∀ n os, (grow (W.drewN n) os).cell? ⟨blk, off + i * 2, none⟩ = some (.string x)) ∧ (∀ n os, (grow (W.drewN n) os).cell? ⟨blk, off + i * 2 + 1, none⟩ = some (.string y)) := by
  obtain ⟨x, y, e, c1, c2, _, _⟩ := stk2 h R E2 hs i hi
  exact ⟨x, y, e, fun n os => cell_grown (h.lt R.hblk) c1 n os, fun n os => cell_grown (h.lt R.hblk) c2 n os⟩
set_option maxHeartbeats 4000000 in
set_option maxRecDepth 1000000 in
theorem StkInsertion {α : Type} [Inhabited α] (enc : α → List Value) (cf : α → α → Int) (g : Nat) (blk off cap a b : Nat) (d0 d : Array α) (w0 w : World)
    (eg : ∀ args w, (callFunc g args).run Tryd.prog w = .ok (.enter g args) w) (he2 : ∀ x, ∃ p q, enc x = [.string p, .string q]) (hcmp : CmpLays Tryd.prog g #[] enc 2 cf blk off d0.size w0)
    (R : RowK enc 2 w0 blk off d0) (hs : d0.size = d.size) (S : SWK enc 2 w0 blk off d w) (hab : a ≤ b) (hb : b ≤ d.size) (hsz : d.size < 4611686018427387904) :
    Calls Tryd.prog 51 #[.slice (some ⟨blk, off, none⟩) d.size cap, .int .i64 a, .int .i64 b, .func (.func g) #[] #[]] w fun e w' =>
      e = .returned (.tuple #[]) ∧ SWK enc 2 w0 blk off (Sort.insertionSort (ltOf cf) d a b) w' := by
  have mixed : Tryd.prog.follows .mixedOrders = true := by kernel_rfl
  have S0 : Aside _ := S
  have E2 := Lib.hid he2
  have HC : Aside _ := hcmp
  have hs' : d0.size ≤ d.size ∧ d.size ≤ d0.size := by omega
  clear S hs he2 hcmp
  go_enter Tryd.func51, Tryd.ntmps51
  go_wp2_with fail
  go_loopg [8] (b - a) (fun g1 vi wr => ∃ (i : Nat) (dk : Array α), vi = .int .i64 i ∧ a < i ∧ i ≤ b + 1 ∧ b + 1 - i ≤ g1 + 1 ∧ (dk.size ≤ d.size ∧ d.size ≤ dk.size) ∧ Aside (SWK enc 2 w0 blk off dk wr) ∧ Hid (insOuter (ltOf cf) a b i dk = insOuter (ltOf cf) a b (a + 1) d))
  case atStart => exact ⟨a + 1, d, by go_num, by omega, by omega, by omega, ⟨Nat.le_refl _, Nat.le_refl _⟩, S0, rfl⟩
  case round =>
    clear S0
    obtain ⟨i, dk, rfl, hai, hib, hg1, hsk, S1, HO⟩ := hrel
    by_cases hlt : i < b
    · have hd : decide ((i : Int) < (b : Int)) = true := by simp; omega
      go_wp2_with fail
      go_loopg [9] i (fun g2 vj wr2 => ∃ (j : Nat) (dj : Array α), vj = .int .i64 j ∧ a ≤ j ∧ j ≤ i ∧ j ≤ g2 ∧ (dj.size ≤ d.size ∧ d.size ≤ dj.size) ∧ Aside (SWK enc 2 w0 blk off dj wr2) ∧ Hid (insInner (ltOf cf) a j dj = insInner (ltOf cf) a i dk))
      case atStart => exact ⟨i, dk, rfl, by omega, Nat.le_refl _, Nat.le_refl _, hsk, S1, rfl⟩
      case round =>
        clear S1
        obtain ⟨j, dj, rfl, haj, hji, hg2, hsj, S1, HI⟩ := hrel
        have out : (j ≤ a ∨ ltOf cf dj[j]! dj[j - 1]! = false) → Hid (insOuter (ltOf cf) a b (i + 1) dj = insOuter (ltOf cf) a b (a + 1) d) := fun hs => by
          show _ = _
          rw [← HO.out, insOuter_go _ _ _ _ _ hlt, ← HI.out, insInner_stop _ _ _ _ hs]
        have OUT : Aside _ := out
        clear out hd
        by_cases hja : a < j
        · have hjd : decide ((j : Int) > (a : Int)) = true := by simp; omega
          have hjd2 : decide ((a : Int) < (j : Int)) = true := by simp; omega
          have go : ltOf cf dj[j]! dj[j - 1]! = true → Hid (insInner (ltOf cf) a (j - 1) (swp dj j (j - 1)) = insInner (ltOf cf) a i dk) := fun hl => by
            show _ = _
            rw [← HI.out, insInner_go (ltOf cf) a j dj hja hl]
          have GO : Aside _ := go
          clear go
          have HV : Aside ((cf dj[j]! dj[j - 1]! < 0 → ltOf cf dj[j]! dj[j - 1]! = true) ∧ (¬ cf dj[j]! dj[j - 1]! < 0 → ltOf cf dj[j]! dj[j - 1]! = false)) := ⟨fun h => decide_eq_true h, fun h => decide_eq_false h⟩
          have p1 : (0 : Int) ≤ (j : Int) := by omega
          have b1 : (j : Int) < (d.size : Int) := by omega
          have e2 : ((j : Int) - 1).toNat = j - 1 := by omega
          have p2 : (0 : Int) ≤ (j : Int) - 1 := by omega
          have b2 : (j : Int) - 1 < (d.size : Int) := by omega
          have r2 : IntKind.i64.wrap ((j : Int) - 1) = (j : Int) - 1 := by rw [IntKind.wrap_i64]; omega
          have q2 : (1 : Int) ≤ (j : Int) := by omega
          obtain ⟨x1, y1, ex1, cx1, cy1⟩ := stk2g S1.out R E2.out (by omega) (j) (by omega)
          obtain ⟨z1, t1, ez1, cz1, ct1⟩ := stk2g S1.out R E2.out (by omega) (j - 1) (by omega)
          have hc1 : ∀ n' os', Calls Tryd.prog g #[.agg #[.string x1, .string y1], .agg #[.string z1, .string t1]] (grow ((wr).drewN n') os') fun e w' => e = .returned (.int .i64 (cf dj[j]! dj[j - 1]!)) ∧ ∃ q os'', w' = grow ((grow ((wr).drewN n') os').drewN q) os'' := fun n' os' => by
            have h := S1.out.cmp HC.out (by omega) dj[j]! dj[j - 1]! n' os'
            rw [ex1, ez1] at h; exact h
          generalize cf dj[j]! dj[j - 1]! = v1 at *
          clear ex1 ez1
          go_wp2_with fail
          go_quiet_grown (first | (go_at_fn g; refine Calls.grown_of (hc1 _ _)))
          have S2 : Aside (SWK enc 2 w0 blk off dj (grow ((wr).drewN nq) osq)) := S1.out.grown nq osq
          clear cx1 cy1 cz1 ct1 hc1 S1
          generalize grow ((wr).drewN nq) osq = wq at S2 ⊢
          clear nq osq
          by_cases hlv : v1 < 0
          · have hdv : decide (v1 < 0) = true := by simp; omega
            have HL := Lib.hid (HV.out.1 (by omega))
            clear HV
            go_wp2_with fail
            have S3 : Aside (SWK enc 2 w0 blk off (swp dj (j) (j - 1)) ((wq.drew.setCells blk (off + (j) * 2) (enc dj[j - 1]!)).setCells blk (off + (j - 1) * 2) (enc dj[j]!))) := S2.out.swapped R (j) (j - 1) (by omega) (by omega)
            obtain ⟨x2, y2, ex2, cx2, cy2, fx2, fy2⟩ := stk2 S2.out R E2.out (by omega) (j) (by omega)
            obtain ⟨z2, t2, ez2, cz2, ct2, fz2, ft2⟩ := stk2 S2.out R E2.out (by omega) (j - 1) (by omega)
            rw [ex2, ez2] at S3
            have q2a : ¬ off + (j) * 2 = off + (j - 1) * 2 := by omega
            have q2b : ¬ off + (j) * 2 = off + (j - 1) * 2 + 1 := by omega
            have q2c : ¬ off + (j) * 2 + 1 = off + (j - 1) * 2 := by omega
            have q2d : ¬ off + (j - 1) * 2 = off + (j) * 2 := by omega
            have q2e : ¬ off + (j - 1) * 2 = off + (j) * 2 + 1 := by omega
            have q2f : ¬ off + (j - 1) * 2 + 1 = off + (j) * 2 := by omega
            clear S2 ex2 ez2
            go_wp2_with fail
            go_big_region
            clear cx2 cy2 fx2 fy2 cz2 ct2 fz2 ft2 q2a q2b q2c q2d q2e q2f
            generalize hw2 : World.drew _ = w3
            have S3z : Aside (SWK enc 2 w0 blk off (swp dj (j) (j - 1)) w3) := by rw [← hw2]; exact S3
            clear hw2 S3
            clear hlv hdv
            go_wp2_with fail
            go_roundg (j - 1)
            case measure => omega
            case rel => exact ⟨j - 1, swp dj j (j - 1), by first | go_num | (congr 1; omega), by omega, by omega, Nat.le_refl _, by rw [size_swp]; exact hsj, S3z, GO.out HL.out⟩
          · have hdv : decide (v1 < 0) = false := by simp; omega
            have h0v : 0 ≤ v1 := by omega
            have HL := Lib.hid (HV.out.2 (by omega))
            clear HV
            go_wp2_with fail
            go_roundg (b - (i + 1))
            case measure => omega
            case rel => exact ⟨i + 1, dj, by go_num, by omega, by omega, by omega, hsj, S2, OUT.out (Or.inr HL.out)⟩
        · have hjd : decide ((j : Int) > (a : Int)) = false := by simp; omega
          have hjd2 : decide ((a : Int) < (j : Int)) = false := by simp; omega
          have S2 := S1.out.drew
          have S3 : Aside _ := S2
          clear S2
          go_wp2_with fail
          go_big_region
          all_goals go_wp2_with fail
          go_roundg (b - (i + 1))
          case measure => omega
          case rel => exact ⟨i + 1, dj, by go_num, by omega, by omega, by omega, hsj, S3, OUT.out (Or.inl (by omega))⟩
    · have hd : decide ((i : Int) < (b : Int)) = false := by simp; omega
      go_wp2_with fail
      go_end0
      exact ⟨rfl, by
        have e : Sort.insertionSort (ltOf cf) d a b = dk := by unfold Sort.insertionSort; rw [← HO.out, insOuter_stop _ _ _ _ _ hlt]
        rw [e]; exact S1.out⟩
end Go.Proofs.YtceeilojcifgeaaDoor
