/-
  The walk of slices.swapRangeCmpFunc at version.keyed.
-/
import Derived.Test.YtceeilojcifgeaaGreatDoorGa
import Derived.Test.YtceeilojcifgeaaGreatDoorChecked
import Derived.WalkKit
import Derived.Lib.Hide
import Derived.Deep.LoopGhost
import Derived.Shelf.SlSortCmp.KitK
namespace Go.Proofs.YtceeilojcifgeaaGreatDoor
open Go.RowKit Go.Lib Go.Sort

theorem stk2 {α : Type} [Inhabited α] {enc : α → List Value} {blk off : Nat} {d0 dk : Array α} {w0 W : World} (h : SWK enc 2 w0 blk off dk W) (R : RowK enc 2 w0 blk off d0) (E2 : ∀ x, ∃ p q, enc x = [.string p, .string q]) (hs : dk.size = d0.size) (i : Nat) (hi : i < dk.size) :
    ∃ x y, enc dk[i]! = [.string x, .string y] ∧ W.cell? ⟨blk, off + i * 2, none⟩ = some (.string x) ∧ W.cell? ⟨blk, off + i * 2 + 1, none⟩ = some (.string y) ∧ W.frozen? ⟨blk, off + i * 2, none⟩ = false ∧ W.frozen? ⟨blk, off + i * 2 + 1, none⟩ = false := by
  have hc := h.holds R.hblk R.hH hs
  have c0 := HoldsK.cell hc hi (show 0 < 2 by omega)
  have c1 := HoldsK.cell hc hi (show 1 < 2 by omega)
  obtain ⟨x, y, h2⟩ := E2 dk[i]!
  rw [h2] at c0 c1
  exact ⟨x, y, h2, c0.1, c1.1, c0.2, c1.2⟩
set_option maxHeartbeats 4000000 in
set_option maxRecDepth 1000000 in
theorem StkSwapRange {α : Type} [Inhabited α] (enc : α → List Value) (blk off cap a b n : Nat) (d0 d : Array α) (w0 w : World) (F : Value) (he2 : ∀ x, ∃ p q, enc x = [.string p, .string q])
    (R : RowK enc 2 w0 blk off d0) (hs : d0.size = d.size) (S : SWK enc 2 w0 blk off d w) (hab : a + n ≤ b) (hb : b + n ≤ d.size) (hsz : d.size < 4611686018427387904) :
    Calls Tryz.prog 104 #[.slice (some ⟨blk, off, none⟩) d.size cap, .int .i64 a, .int .i64 b, .int .i64 n, F] w fun e w' =>
      e = .returned (.tuple #[]) ∧ SWK enc 2 w0 blk off (swr d a b n) w' := by
  have mixed : Tryz.prog.follows .mixedOrders = true := by kernel_rfl
  have S0 : Aside _ := S
  have E2 := Lib.hid he2
  have HS := Lib.hid hs
  have hs' : d0.size ≤ d.size ∧ d.size ≤ d0.size := by omega
  clear S hs he2
  go_enter Tryz.func104, Tryz.ntmps104
  go_wp2_with fail
  go_loopg [10] n (fun g vi wr => ∃ i : Nat, vi = .int .i64 i ∧ i ≤ n ∧ n - i ≤ g ∧ Aside (SWK enc 2 w0 blk off (swr d a b i) wr))
  case atStart => exact ⟨0, rfl, Nat.zero_le _, by omega, S0⟩
  case round =>
    clear S0
    obtain ⟨i, rfl, hi, hg, S1⟩ := hrel
    by_cases hlt : i < n
    · have hd : decide ((i : Int) < (n : Int)) = true := by simp; omega
      have hsr : (swr d a b i).size = d.size := size_swr d a b i
      have hx : swr d a b (i + 1) = swp (swr d a b i) (a + i) (b + i) := rfl
      have HX := Lib.hid hx
      clear hx
      generalize swr d a b i = dk at *
      have hsr1 : dk.size ≤ d.size ∧ d.size ≤ dk.size := by omega
      have HSR := Lib.hid hsr
      clear hsr
      have e1 : ((a : Int) + (i : Int)).toNat = a + i := by omega
      have p1 : (0 : Int) ≤ (a : Int) + (i : Int) := by omega
      have b1 : (a : Int) + (i : Int) < (d.size : Int) := by omega
      have r1 : IntKind.i64.wrap ((a : Int) + (i : Int)) = (a : Int) + (i : Int) := by rw [IntKind.wrap_i64]; omega
      have e2 : ((b : Int) + (i : Int)).toNat = b + i := by omega
      have p2 : (0 : Int) ≤ (b : Int) + (i : Int) := by omega
      have b2 : (b : Int) + (i : Int) < (d.size : Int) := by omega
      have r2 : IntKind.i64.wrap ((b : Int) + (i : Int)) = (b : Int) + (i : Int) := by rw [IntKind.wrap_i64]; omega
      have S2 : Aside (SWK enc 2 w0 blk off (swp dk (a + i) (b + i)) ((wr.drew.setCells blk (off + (a + i) * 2) (enc dk[b + i]!)).setCells blk (off + (b + i) * 2) (enc dk[a + i]!))) := S1.out.swapped R (a + i) (b + i) (by omega) (by omega)
      obtain ⟨x1, y1, ex1, cx1, cy1, fx1, fy1⟩ := stk2 S1.out R E2.out (by omega) (a + i) (by omega)
      obtain ⟨z1, t1, ez1, cz1, ct1, fz1, ft1⟩ := stk2 S1.out R E2.out (by omega) (b + i) (by omega)
      rw [ex1, ez1] at S2
      have q1a : ¬ off + (a + i) * 2 = off + (b + i) * 2 := by omega
      have q1b : ¬ off + (a + i) * 2 = off + (b + i) * 2 + 1 := by omega
      have q1c : ¬ off + (a + i) * 2 + 1 = off + (b + i) * 2 := by omega
      have q1d : ¬ off + (b + i) * 2 = off + (a + i) * 2 := by omega
      have q1e : ¬ off + (b + i) * 2 = off + (a + i) * 2 + 1 := by omega
      have q1f : ¬ off + (b + i) * 2 + 1 = off + (a + i) * 2 := by omega
      clear S1 ex1 ez1
      go_wp2_with fail
      go_big_region
      clear cx1 cy1 fx1 fy1 cz1 ct1 fz1 ft1 q1a q1b q1c q1d q1e q1f
      generalize hw1 : World.drew _ = w3
      have S2z : Aside (SWK enc 2 w0 blk off (swp dk (a + i) (b + i)) w3) := by rw [← hw1]; exact S2
      clear hw1 S2
      go_wp2_with fail
      go_roundg (n - (i + 1))
      case measure => omega
      case rel => exact ⟨i + 1, by go_num, by omega, by omega, by rw [HX.out]; exact S2z⟩
    · obtain rfl : i = n := by omega
      have hd : decide ((i : Int) < (i : Int)) = false := by simp
      go_wp2_with fail
      go_end0
      exact ⟨rfl, S1.out⟩
end Go.Proofs.YtceeilojcifgeaaGreatDoor

namespace Go.Proofs.YtceeilojcifgeaaGreatDoor
open Go.RowKit Go.Lib Go.Sort

theorem stk2g {α : Type} [Inhabited α] {enc : α → List Value} {blk off : Nat} {d0 dk : Array α} {w0 W : World} (h : SWK enc 2 w0 blk off dk W) (R : RowK enc 2 w0 blk off d0) (E2 : ∀ x, ∃ p q, enc x = [.string p, .string q]) (hs : dk.size = d0.size) (i : Nat) (hi : i < dk.size) :
    ∃ x y, enc dk[i]! = [.string x, .string y] ∧ (∀ n os, (grow (W.drewN n) os).cell? ⟨blk, off + i * 2, none⟩ = some (.string x)) ∧ (∀ n os, (grow (W.drewN n) os).cell? ⟨blk, off + i * 2 + 1, none⟩ = some (.string y)) := by
  obtain ⟨x, y, e, c1, c2, _, _⟩ := stk2 h R E2 hs i hi
  exact ⟨x, y, e, fun n os => cell_grown (h.lt R.hblk) c1 n os, fun n os => cell_grown (h.lt R.hblk) c2 n os⟩
set_option maxHeartbeats 4000000 in
set_option maxRecDepth 1000000 in
theorem StkInsertion {α : Type} [Inhabited α] (enc : α → List Value) (cf : α → α → Int) (g : Nat) (blk off cap a b : Nat) (d0 d : Array α) (w0 w : World)
    (eg : ∀ args w, (callFunc g args).run Tryz.prog w = .ok (.enter g args) w) (he2 : ∀ x, ∃ p q, enc x = [.string p, .string q]) (hcmp : CmpLays Tryz.prog g #[] enc 2 cf blk off d0.size w0)
    (R : RowK enc 2 w0 blk off d0) (hs : d0.size = d.size) (S : SWK enc 2 w0 blk off d w) (hab : a ≤ b) (hb : b ≤ d.size) (hsz : d.size < 4611686018427387904) :
    Calls Tryz.prog 67 #[.slice (some ⟨blk, off, none⟩) d.size cap, .int .i64 a, .int .i64 b, .func (.func g) #[] #[]] w fun e w' =>
      e = .returned (.tuple #[]) ∧ SWK enc 2 w0 blk off (Sort.insertionSort (ltOf cf) d a b) w' := by
  have mixed : Tryz.prog.follows .mixedOrders = true := by kernel_rfl
  have S0 : Aside _ := S
  have E2 := Lib.hid he2
  have HC : Aside _ := hcmp
  have hs' : d0.size ≤ d.size ∧ d.size ≤ d0.size := by omega
  clear S hs he2 hcmp
  go_enter Tryz.func67, Tryz.ntmps67
  go_wp2_with fail
  go_loopg [8] (b - a) (fun g1 vi wr => ∃ (i : Nat) (dk : Array α), vi = .int .i64 i ∧ a < i ∧ i ≤ b + 1 ∧ b + 1 - i ≤ g1 + 1 ∧ (dk.size ≤ d.size ∧ d.size ≤ dk.size) ∧ Aside (SWK enc 2 w0 blk off dk wr) ∧ Hid (insOuter (ltOf cf) a b i dk = insOuter (ltOf cf) a b (a + 1) d))
  case atStart => exact ⟨a + 1, d, by go_num, by omega, by omega, by omega, ⟨Nat.le_refl _, Nat.le_refl _⟩, S0, rfl⟩
  case round =>
    clear S0
    obtain ⟨i, dk, rfl, hai, hib, hg1, hsk, S1, HO⟩ := hrel
    by_cases hlt : i < b
    · have hd : decide ((i : Int) < (b : Int)) = true := by simp; omega
      go_wp2_with fail
      go_loopg [9] i (fun g2 vj wr2 => ∃ (j : Nat) (dj : Array α), vj = .int .i64 j ∧ a ≤ j ∧ j ≤ i ∧ j ≤ g2 ∧ (dj.size ≤ d.size ∧ d.size ≤ dj.size) ∧ Aside (SWK enc 2 w0 blk off dj wr2) ∧ Hid (insInner (ltOf cf) a j dj = insInner (ltOf cf) a i dk))
      case atStart => exact ⟨i, dk, rfl, by omega, Nat.le_refl _, Nat.le_refl _, hsk, S1, rfl⟩
      case round =>
        clear S1
        obtain ⟨j, dj, rfl, haj, hji, hg2, hsj, S1, HI⟩ := hrel
        have out : (j ≤ a ∨ ltOf cf dj[j]! dj[j - 1]! = false) → Hid (insOuter (ltOf cf) a b (i + 1) dj = insOuter (ltOf cf) a b (a + 1) d) := fun hs => by
          show _ = _
          rw [← HO.out, insOuter_go _ _ _ _ _ hlt, ← HI.out, insInner_stop _ _ _ _ hs]
        have OUT : Aside _ := out
        clear out hd
        by_cases hja : a < j
        · have hjd : decide ((j : Int) > (a : Int)) = true := by simp; omega
          have hjd2 : decide ((a : Int) < (j : Int)) = true := by simp; omega
          have go : ltOf cf dj[j]! dj[j - 1]! = true → Hid (insInner (ltOf cf) a (j - 1) (swp dj j (j - 1)) = insInner (ltOf cf) a i dk) := fun hl => by
            show _ = _
            rw [← HI.out, insInner_go (ltOf cf) a j dj hja hl]
          have GO : Aside _ := go
          clear go
          have HV : Aside ((cf dj[j]! dj[j - 1]! < 0 → ltOf cf dj[j]! dj[j - 1]! = true) ∧ (¬ cf dj[j]! dj[j - 1]! < 0 → ltOf cf dj[j]! dj[j - 1]! = false)) := ⟨fun h => decide_eq_true h, fun h => decide_eq_false h⟩
          have p1 : (0 : Int) ≤ (j : Int) := by omega
          have b1 : (j : Int) < (d.size : Int) := by omega
          have e2 : ((j : Int) - 1).toNat = j - 1 := by omega
          have p2 : (0 : Int) ≤ (j : Int) - 1 := by omega
          have b2 : (j : Int) - 1 < (d.size : Int) := by omega
          have r2 : IntKind.i64.wrap ((j : Int) - 1) = (j : Int) - 1 := by rw [IntKind.wrap_i64]; omega
          have q2 : (1 : Int) ≤ (j : Int) := by omega
          obtain ⟨x1, y1, ex1, cx1, cy1⟩ := stk2g S1.out R E2.out (by omega) (j) (by omega)
          obtain ⟨z1, t1, ez1, cz1, ct1⟩ := stk2g S1.out R E2.out (by omega) (j - 1) (by omega)
          have hc1 : ∀ n' os', Calls Tryz.prog g #[.agg #[.string x1, .string y1], .agg #[.string z1, .string t1]] (grow ((wr).drewN n') os') fun e w' => e = .returned (.int .i64 (cf dj[j]! dj[j - 1]!)) ∧ ∃ q os'', w' = grow ((grow ((wr).drewN n') os').drewN q) os'' := fun n' os' => by
            have h := S1.out.cmp HC.out (by omega) dj[j]! dj[j - 1]! n' os'
            rw [ex1, ez1] at h; exact h
          generalize cf dj[j]! dj[j - 1]! = v1 at *
          clear ex1 ez1
          go_wp2_with fail
          go_quiet_grown (first | (go_at_fn g; refine Calls.grown_of (hc1 _ _)))
          have S2 : Aside (SWK enc 2 w0 blk off dj (grow ((wr).drewN nq) osq)) := S1.out.grown nq osq
          clear cx1 cy1 cz1 ct1 hc1 S1
          generalize grow ((wr).drewN nq) osq = wq at S2 ⊢
          clear nq osq
          by_cases hlv : v1 < 0
          · have hdv : decide (v1 < 0) = true := by simp; omega
            have HL := Lib.hid (HV.out.1 (by omega))
            clear HV
            go_wp2_with fail
            have S3 : Aside (SWK enc 2 w0 blk off (swp dj (j) (j - 1)) ((wq.drew.setCells blk (off + (j) * 2) (enc dj[j - 1]!)).setCells blk (off + (j - 1) * 2) (enc dj[j]!))) := S2.out.swapped R (j) (j - 1) (by omega) (by omega)
            obtain ⟨x2, y2, ex2, cx2, cy2, fx2, fy2⟩ := stk2 S2.out R E2.out (by omega) (j) (by omega)
            obtain ⟨z2, t2, ez2, cz2, ct2, fz2, ft2⟩ := stk2 S2.out R E2.out (by omega) (j - 1) (by omega)
            rw [ex2, ez2] at S3
            have q2a : ¬ off + (j) * 2 = off + (j - 1) * 2 := by omega
            have q2b : ¬ off + (j) * 2 = off + (j - 1) * 2 + 1 := by omega
            have q2c : ¬ off + (j) * 2 + 1 = off + (j - 1) * 2 := by omega
            have q2d : ¬ off + (j - 1) * 2 = off + (j) * 2 := by omega
            have q2e : ¬ off + (j - 1) * 2 = off + (j) * 2 + 1 := by omega
            have q2f : ¬ off + (j - 1) * 2 + 1 = off + (j) * 2 := by omega
            clear S2 ex2 ez2
            go_wp2_with fail
            go_big_region
            clear cx2 cy2 fx2 fy2 cz2 ct2 fz2 ft2 q2a q2b q2c q2d q2e q2f
            generalize hw2 : World.drew _ = w3
            have S3z : Aside (SWK enc 2 w0 blk off (swp dj (j) (j - 1)) w3) := by rw [← hw2]; exact S3
            clear hw2 S3
            clear hlv hdv
            go_wp2_with fail
            go_roundg (j - 1)
            case measure => omega
            case rel => exact ⟨j - 1, swp dj j (j - 1), by first | go_num | (congr 1; omega), by omega, by omega, Nat.le_refl _, by rw [size_swp]; exact hsj, S3z, GO.out HL.out⟩
          · have hdv : decide (v1 < 0) = false := by simp; omega
            have h0v : 0 ≤ v1 := by omega
            have HL := Lib.hid (HV.out.2 (by omega))
            clear HV
            go_wp2_with fail
            go_roundg (b - (i + 1))
            case measure => omega
            case rel => exact ⟨i + 1, dj, by go_num, by omega, by omega, by omega, hsj, S2, OUT.out (Or.inr HL.out)⟩
        · have hjd : decide ((j : Int) > (a : Int)) = false := by simp; omega
          have hjd2 : decide ((a : Int) < (j : Int)) = false := by simp; omega
          have S2 := S1.out.drew
          have S3 : Aside _ := S2
          clear S2
          go_wp2_with fail
          go_big_region
          all_goals go_wp2_with fail
          go_roundg (b - (i + 1))
          case measure => omega
          case rel => exact ⟨i + 1, dj, by go_num, by omega, by omega, by omega, hsj, S3, OUT.out (Or.inl (by omega))⟩
    · have hd : decide ((i : Int) < (b : Int)) = false := by simp; omega
      go_wp2_with fail
      go_end0
      exact ⟨rfl, by
        have e : Sort.insertionSort (ltOf cf) d a b = dk := by unfold Sort.insertionSort; rw [← HO.out, insOuter_stop _ _ _ _ _ hlt]
        rw [e]; exact S1.out⟩
end Go.Proofs.YtceeilojcifgeaaGreatDoor

namespace Go.Proofs.YtceeilojcifgeaaGreatDoor
open Go.RowKit Go.Lib Go.Sort

set_option maxHeartbeats 4000000 in
set_option maxRecDepth 1000000 in
theorem StkRotate {α : Type} [Inhabited α] (enc : α → List Value) (blk off cap a m b : Nat) (d0 d : Array α) (w0 w : World) (F : Value) (he2 : ∀ x, ∃ p q, enc x = [.string p, .string q])
    (R : RowK enc 2 w0 blk off d0) (hs : d0.size = d.size) (S : SWK enc 2 w0 blk off d w) (ham : a < m) (hmb : m < b) (hb : b ≤ d.size) (hsz : d.size < 4611686018427387904) :
    Calls Tryz.prog 86 #[.slice (some ⟨blk, off, none⟩) d.size cap, .int .i64 a, .int .i64 m, .int .i64 b, F] w fun e w' =>
      e = .returned (.tuple #[]) ∧ ∃ d', d'.size = d.size ∧ PermIn a b d d' ∧ Rot d d' a m b ∧ SWK enc 2 w0 blk off d' w' := by
  have S0 : Aside _ := S
  have HSW := Lib.hid (fun (a b n : Nat) (dk : Array α) (w : World) (h1 : d.size = dk.size) (S : SWK enc 2 w0 blk off dk w) (h2 : a + n ≤ b) (h3 : b + n ≤ d.size) =>
    (show Calls Tryz.prog 104 #[.slice (some ⟨blk, off, none⟩) d.size cap, .int .i64 a, .int .i64 b, .int .i64 n, F] w fun e w' => e = .returned (.tuple #[]) ∧ SWK enc 2 w0 blk off (swr dk a b n) w' by
      have := StkSwapRange enc blk off cap a b n d0 dk w0 w F he2 R (by omega) S h2 (by omega) (by omega)
      rw [← h1] at this; exact this))
  have HG := Lib.hid (rot_start d (Nat.le_of_lt ham) (Nat.le_of_lt hmb))
  clear S he2
  go_enter Tryz.func86, Tryz.ntmps86
  have q1 : IntKind.i64.wrap ((m : Int) - (a : Int)) = ((m - a : Nat) : Int) := by rw [IntKind.wrap_i64]; omega
  have q2 : IntKind.i64.wrap ((b : Int) - (m : Int)) = ((b - m : Nat) : Int) := by rw [IntKind.wrap_i64]; omega
  go_wp2_with fail
  clear q1 q2
  go_loopg [10, 11] (m - a + (b - m)) (fun g vi vj wr => ∃ (i j : Nat) (dk : Array α), vi = .int .i64 i ∧ vj = .int .i64 j ∧ 1 ≤ i ∧ 1 ≤ j ∧ i ≤ m - a ∧ j ≤ b - m ∧ i + j ≤ g ∧ Hid (dk.size = d.size ∧ PermIn a b d dk ∧ RotI (rotG d a m b) m i j dk) ∧ Aside (SWK enc 2 w0 blk off dk wr))
  case atStart => exact ⟨m - a, b - m, d, by first | rfl | (congr 1; omega), by first | rfl | (congr 1; omega), by omega, by omega, Nat.le_refl _, Nat.le_refl _, Nat.le_refl _, ⟨rfl, permIn_refl _ _ _, HG.out⟩, S0⟩
  case round =>
    clear S0 HG
    obtain ⟨i, j, dk, rfl, rfl, hi1, hj1, him, hjb, hg, H, S1⟩ := hrel
    have hmi : IntKind.i64.wrap ((m : Int) - (i : Int)) = ((m - i : Nat) : Int) := by rw [IntKind.wrap_i64]; omega
    by_cases hgt : j < i
    · have d1 : ((i : Int) != (j : Int)) = true := by rw [bne_iff_ne]; omega
      have d2 : decide ((i : Int) > (j : Int)) = true := by simp; omega
      have d3 : decide ((j : Int) < (i : Int)) = true := by simp; omega
      have C := Lib.hid (HSW.out (m - i) m j dk wr H.out.1.symm S1.out (by omega) (by omega))
      have hij : IntKind.i64.wrap ((i : Int) - (j : Int)) = ((i - j : Nat) : Int) := by rw [IntKind.wrap_i64]; omega
      go_wp2_with fail
      refine C.out.mono ?_
      rintro e w2 ⟨rfl, S2⟩
      have S3 : Aside _ := S2
      clear S2 C
      go_wp2_with fail
      clear hmi hij d1 d2 d3
      go_roundg (i - j + j)
      case measure => omega
      case rel =>
        refine ⟨i - j, j, swr dk (m - i) m j, by first | rfl | (congr 1; omega), rfl, by omega, hj1, by omega, hjb, Nat.le_refl _, ⟨by rw [size_swr]; exact H.out.1, ?_, ?_⟩, S3⟩
        · exact permIn_trans _ _ _ _ _ H.out.2.1 (swr_perm dk (m - i) m a b (by omega) (by rw [H.out.1]; exact hb) j (by omega) (by omega))
        · exact rot_gt H.out.2.2 hgt (by omega) (by rw [H.out.1]; omega)
    · by_cases hlt : i < j
      · have d1 : ((i : Int) != (j : Int)) = true := by rw [bne_iff_ne]; omega
        have d2 : decide ((i : Int) > (j : Int)) = false := by simp; omega
        have d3 : decide ((j : Int) < (i : Int)) = false := by simp; omega
        have C := Lib.hid (HSW.out (m - i) (m + j - i) i dk wr H.out.1.symm S1.out (by omega) (by omega))
        have hmj : IntKind.i64.wrap ((m : Int) + (j : Int)) = (m : Int) + (j : Int) := by rw [IntKind.wrap_i64]; omega
        have hmji : IntKind.i64.wrap ((m : Int) + (j : Int) - (i : Int)) = ((m + j - i : Nat) : Int) := by rw [IntKind.wrap_i64]; omega
        have hij : IntKind.i64.wrap ((j : Int) - (i : Int)) = ((j - i : Nat) : Int) := by rw [IntKind.wrap_i64]; omega
        go_wp2_with fail
        refine C.out.mono ?_
        rintro e w2 ⟨rfl, S2⟩
        have S3 : Aside _ := S2
        clear S2 C
        go_wp2_with fail
        clear hmi hij hmj hmji d1 d2 d3
        go_roundg (i + (j - i))
        case measure => omega
        case rel =>
          refine ⟨i, j - i, swr dk (m - i) (m + j - i) i, rfl, by first | rfl | (congr 1; omega), hi1, by omega, him, by omega, Nat.le_refl _, ⟨by rw [size_swr]; exact H.out.1, ?_, ?_⟩, S3⟩
          · exact permIn_trans _ _ _ _ _ H.out.2.1 (swr_perm dk (m - i) (m + j - i) a b (by omega) (by rw [H.out.1]; exact hb) i (by omega) (by omega))
          · exact rot_lt H.out.2.2 hlt (by omega) (by rw [H.out.1]; omega)
      · obtain rfl : i = j := by omega
        have d1 : ((i : Int) != (i : Int)) = false := by simp
        have C := Lib.hid (HSW.out (m - i) m i dk wr H.out.1.symm S1.out (by omega) (by omega))
        go_wp2_with fail
        refine C.out.mono ?_
        rintro e w2 ⟨rfl, S2⟩
        have S3 : Aside _ := S2
        clear S2 C
        go_wp2_with fail
        go_end0
        exact ⟨rfl, swr dk (m - i) m i, by rw [size_swr]; exact H.out.1, permIn_trans _ _ _ _ _ H.out.2.1 (swr_perm dk (m - i) m a b (by omega) (by rw [H.out.1]; exact hb) i (by omega) (by omega)), fun k => rot_eq H.out.2.2 (by omega) (by rw [H.out.1]; omega) k, S3.out⟩
end Go.Proofs.YtceeilojcifgeaaGreatDoor
