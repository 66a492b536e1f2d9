/-
  The walk of slices.swapRangeCmpFunc at api.Blob (an element of k cells, k held as a variable).
-/
import Derived.Test.YtdjknefbaclleaaGreatDoorStbM
import Derived.Test.YtdjknefbaclleaaGreatDoorChecked
import Derived.WalkKit
import Derived.Lib.Hide
import Derived.Deep.LoopGhost
import Derived.BigRegion
import Derived.Shelf.SlSortCmp.KitK
namespace Go.Proofs.YtdjknefbaclleaaGreatDoor
open Go.RowKit Go.Lib Go.Sort

set_option maxHeartbeats 4000000 in
set_option maxRecDepth 1000000 in
theorem StlSwapRange {α : Type} [Inhabited α] (enc : α → List Value) (blk off cap a b n : Nat) (d0 d : Array α) (w0 w : World) (F : Value) (k : Nat) (aE : ∀ w, (isAgg 50).run Tryz.prog w = .ok true w) (zE : ∀ w, (Go.sizeOf 50).run Tryz.prog w = .ok k w)
    (R : RowK enc k w0 blk off d0) (hs : d0.size = d.size) (S : SWK enc k w0 blk off d w) (hab : a + n ≤ b) (hb : b + n ≤ d.size) (hsz : d.size < 4611686018427387904) :
    Calls Tryz.prog 133 #[.slice (some ⟨blk, off, none⟩) d.size cap, .int .i64 a, .int .i64 b, .int .i64 n, F] w fun e w' =>
      e = .returned (.tuple #[]) ∧ SWK enc k w0 blk off (swr d a b n) w' := by
  have mixed : Tryz.prog.follows .mixedOrders = true := by kernel_rfl
  have S0 : Aside _ := S
  have HS := Lib.hid hs
  have hs' : d0.size ≤ d.size ∧ d.size ≤ d0.size := by omega
  clear S hs
  go_enter Tryz.func133, Tryz.ntmps133
  go_wp2_with fail
  go_loopg [10] n (fun g vi wr => ∃ i : Nat, vi = .int .i64 i ∧ i ≤ n ∧ n - i ≤ g ∧ Aside (SWK enc k w0 blk off (swr d a b i) wr))
  case atStart => exact ⟨0, rfl, Nat.zero_le _, by omega, S0⟩
  case round =>
    clear S0
    obtain ⟨i, rfl, hi, hg, S1⟩ := hrel
    by_cases hlt : i < n
    · have hd : decide ((i : Int) < (n : Int)) = true := by simp; omega
      have hsr : (swr d a b i).size = d.size := size_swr d a b i
      have hx : swr d a b (i + 1) = swp (swr d a b i) (a + i) (b + i) := rfl
      have HX := Lib.hid hx
      clear hx
      generalize swr d a b i = dk at *
      have hsr1 : dk.size ≤ d.size ∧ d.size ≤ dk.size := by omega
      have HSR := Lib.hid hsr
      clear hsr
      have e1 : ((a : Int) + (i : Int)).toNat = a + i := by omega
      have p1 : (0 : Int) ≤ (a : Int) + (i : Int) := by omega
      have b1 : (a : Int) + (i : Int) < (d.size : Int) := by omega
      have r1 : IntKind.i64.wrap ((a : Int) + (i : Int)) = (a : Int) + (i : Int) := by rw [IntKind.wrap_i64]; omega
      have e2 : ((b : Int) + (i : Int)).toNat = b + i := by omega
      have p2 : (0 : Int) ≤ (b : Int) + (i : Int) := by omega
      have b2 : (b : Int) + (i : Int) < (d.size : Int) := by omega
      have r2 : IntKind.i64.wrap ((b : Int) + (i : Int)) = (b : Int) + (i : Int) := by rw [IntKind.wrap_i64]; omega
      have S2 : Aside (SWK enc k w0 blk off (swp dk (a + i) (b + i)) ((wr.drew.setCells blk (off + (a + i) * k) (enc dk[b + i]!)).setCells blk (off + (b + i) * k) (enc dk[a + i]!))) := S1.out.swapped R (a + i) (b + i) (by omega) (by omega)
      have l1 := S1.out.ld1 R (by omega) Tryz.prog (a + i) (by omega)
      have l2 := S1.out.ld1 R (by omega) Tryz.prog (b + i) (by omega)
      have s1 := S1.out.st1 R (by omega) Tryz.prog (a + i) (by omega) dk[b + i]!
      have s2 := S1.out.st2 R (by omega) Tryz.prog (a + i) (b + i) (by omega) (by omega) dk[b + i]! dk[a + i]!
      have n1 : (enc dk[a + i]!).length = k := R.hk _
      have n2 : (enc dk[b + i]!).length = k := R.hk _
      generalize enc dk[a + i]! = cI at S2 l1 s2 n1
      generalize enc dk[b + i]! = cJ at S2 l2 s1 s2 n2
      clear S1
      go_wp2_with fail
      go_big_region_o
      clear l1 l2 s1 s2 n1 n2
      generalize (wr.drew.setCells blk (off + (a + i) * k) cJ).setCells blk (off + (b + i) * k) cI = w3 at S2 ⊢
      go_wp2_with fail
      go_roundg (n - (i + 1))
      case measure => omega
      case rel => exact ⟨i + 1, by go_num, by omega, by omega, by rw [HX.out]; exact S2⟩
    · obtain rfl : i = n := by omega
      have hd : decide ((i : Int) < (i : Int)) = false := by simp
      go_wp2_with fail
      go_end0
      exact ⟨rfl, S1.out⟩
end Go.Proofs.YtdjknefbaclleaaGreatDoor
