/-
  The walk of slices.swapRangeCmpFunc at version.keyed.
-/
import Derived.Test.YtceeilojcifgeaaDoorStbM
import Derived.Test.YtceeilojcifgeaaDoorChecked
import Derived.WalkKit
import Derived.Lib.Hide
import Derived.Deep.LoopGhost
import Derived.Shelf.SlSortCmp.KitK
namespace Go.Proofs.YtceeilojcifgeaaDoor
open Go.RowKit Go.Lib Go.Sort

theorem stk2 {α : Type} [Inhabited α] {enc : α → List Value} {blk off : Nat} {d0 dk : Array α} {w0 W : World} (h : SWK enc 2 w0 blk off dk W) (R : RowK enc 2 w0 blk off d0) (E2 : ∀ x, ∃ p q, enc x = [.string p, .string q]) (hs : dk.size = d0.size) (i : Nat) (hi : i < dk.size) :
    ∃ x y, enc dk[i]! = [.string x, .string y] ∧ W.cell? ⟨blk, off + i * 2, none⟩ = some (.string x) ∧ W.cell? ⟨blk, off + i * 2 + 1, none⟩ = some (.string y) ∧ W.frozen? ⟨blk, off + i * 2, none⟩ = false ∧ W.frozen? ⟨blk, off + i * 2 + 1, none⟩ = false := by
  have hc := h.holds R.hblk R.hH hs
  have c0 := HoldsK.cell hc hi (show 0 < 2 by omega)
  have c1 := HoldsK.cell hc hi (show 1 < 2 by omega)
  obtain ⟨x, y, h2⟩ := E2 dk[i]!
  rw [h2] at c0 c1
  exact ⟨x, y, h2, c0.1, c1.1, c0.2, c1.2⟩
set_option maxHeartbeats 4000000 in
set_option maxRecDepth 1000000 in
theorem StkSwapRange {α : Type} [Inhabited α] (enc : α → List Value) (blk off cap a b n : Nat) (d0 d : Array α) (w0 w : World) (F : Value) (he2 : ∀ x, ∃ p q, enc x = [.string p, .string q])
    (R : RowK enc 2 w0 blk off d0) (hs : d0.size = d.size) (S : SWK enc 2 w0 blk off d w) (hab : a + n ≤ b) (hb : b + n ≤ d.size) (hsz : d.size < 4611686018427387904) :
    Calls Tryd.prog 84 #[.slice (some ⟨blk, off, none⟩) d.size cap, .int .i64 a, .int .i64 b, .int .i64 n, F] w fun e w' =>
      e = .returned (.tuple #[]) ∧ SWK enc 2 w0 blk off (swr d a b n) w' := by
  have mixed : Tryd.prog.follows .mixedOrders = true := by kernel_rfl
  have S0 : Aside _ := S
  have E2 := Lib.hid he2
  have HS := Lib.hid hs
  have hs' : d0.size ≤ d.size ∧ d.size ≤ d0.size := by omega
  clear S hs he2
  go_enter Tryd.func84, Tryd.ntmps84
  go_wp2_with fail
  go_loopg [10] n (fun g vi wr => ∃ i : Nat, vi = .int .i64 i ∧ i ≤ n ∧ n - i ≤ g ∧ Aside (SWK enc 2 w0 blk off (swr d a b i) wr))
  case atStart => exact ⟨0, rfl, Nat.zero_le _, by omega, S0⟩
  case round =>
    clear S0
    obtain ⟨i, rfl, hi, hg, S1⟩ := hrel
    by_cases hlt : i < n
    · have hd : decide ((i : Int) < (n : Int)) = true := by simp; omega
      have hsr : (swr d a b i).size = d.size := size_swr d a b i
      have hx : swr d a b (i + 1) = swp (swr d a b i) (a + i) (b + i) := rfl
      have HX := Lib.hid hx
      clear hx
      generalize swr d a b i = dk at *
      have hsr1 : dk.size ≤ d.size ∧ d.size ≤ dk.size := by omega
      have HSR := Lib.hid hsr
      clear hsr
      have e1 : ((a : Int) + (i : Int)).toNat = a + i := by omega
      have p1 : (0 : Int) ≤ (a : Int) + (i : Int) := by omega
      have b1 : (a : Int) + (i : Int) < (d.size : Int) := by omega
      have r1 : IntKind.i64.wrap ((a : Int) + (i : Int)) = (a : Int) + (i : Int) := by rw [IntKind.wrap_i64]; omega
      have e2 : ((b : Int) + (i : Int)).toNat = b + i := by omega
      have p2 : (0 : Int) ≤ (b : Int) + (i : Int) := by omega
      have b2 : (b : Int) + (i : Int) < (d.size : Int) := by omega
      have r2 : IntKind.i64.wrap ((b : Int) + (i : Int)) = (b : Int) + (i : Int) := by rw [IntKind.wrap_i64]; omega
      have S2 : Aside (SWK enc 2 w0 blk off (swp dk (a + i) (b + i)) ((wr.drew.setCells blk (off + (a + i) * 2) (enc dk[b + i]!)).setCells blk (off + (b + i) * 2) (enc dk[a + i]!))) := S1.out.swapped R (a + i) (b + i) (by omega) (by omega)
      obtain ⟨x1, y1, ex1, cx1, cy1, fx1, fy1⟩ := stk2 S1.out R E2.out (by omega) (a + i) (by omega)
      obtain ⟨z1, t1, ez1, cz1, ct1, fz1, ft1⟩ := stk2 S1.out R E2.out (by omega) (b + i) (by omega)
      rw [ex1, ez1] at S2
      have q1a : ¬ off + (a + i) * 2 = off + (b + i) * 2 := by omega
      have q1b : ¬ off + (a + i) * 2 = off + (b + i) * 2 + 1 := by omega
      have q1c : ¬ off + (a + i) * 2 + 1 = off + (b + i) * 2 := by omega
      have q1d : ¬ off + (b + i) * 2 = off + (a + i) * 2 := by omega
      have q1e : ¬ off + (b + i) * 2 = off + (a + i) * 2 + 1 := by omega
      have q1f : ¬ off + (b + i) * 2 + 1 = off + (a + i) * 2 := by omega
      clear S1 ex1 ez1
      go_wp2_with fail
      go_big_region
      clear cx1 cy1 fx1 fy1 cz1 ct1 fz1 ft1 q1a q1b q1c q1d q1e q1f
      generalize hw1 : World.drew _ = w3
      have S2z : Aside (SWK enc 2 w0 blk off (swp dk (a + i) (b + i)) w3) := by rw [← hw1]; exact S2
      clear hw1 S2
      go_wp2_with fail
      go_roundg (n - (i + 1))
      case measure => omega
      case rel => exact ⟨i + 1, by go_num, by omega, by omega, by rw [HX.out]; exact S2z⟩
    · obtain rfl : i = n := by omega
      have hd : decide ((i : Int) < (i : Int)) = false := by simp
      go_wp2_with fail
      go_end0
      exact ⟨rfl, S1.out⟩
end Go.Proofs.YtceeilojcifgeaaDoor
