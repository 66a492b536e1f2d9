/-
  Keys of many one-time keys: what a signer signs verifies; the walks of low and awake (condition: the table of constants reads as it is laid).
-/
import Derived.Test.YtjeiiabpdoelpaaGreatDoorKeyV
namespace Go.Proofs.YtjeiiabpdoelpaaGreatDoor
open Go.RowKit Go.Proofs.YtjeiiabpdoelpaaGreatDoor.One
theorem pubN (x : List Int) (i : Nat) : CQ x (i : Int) = gY x 0 i := rfl
theorem CZ {x d : List Int} {h leaf : Nat} (hd : D32 d) (hh : h ≤ 6) (hl : leaf < 2 ^ h) : yX (h : Int) (gY x h 0) d (leaf : Int) 68 h (eQ x leaf d) (dF x h leaf) = true := by
 unfold yX
 have h1 : iS (h : Int) (leaf : Int) 68 h = true := by
  unfold iS
  rw [decide_eq_true]
  refine ⟨by omega, by omega, ?_, rfl, rfl⟩
  unfold lvN; rw [Int.toNat_natCast]; omega
 rw [h1, Bool.true_and, Int.toNat_natCast, Int.toNat_natCast, rP (x := x) (leaf : Int) hd, pubN, CX x hl]
 exact decide_eq_true rfl
theorem DK {h leaf : Nat} (hh : h ≤ 6) (hl : leaf < 2 ^ h) : iS (h : Int) (leaf : Int) 68 h = true := by
 unfold iS
 rw [decide_eq_true]
 refine ⟨by omega, by omega, ?_, rfl, rfl⟩
 unfold lvN; rw [Int.toNat_natCast]; omega
theorem jG (x : List Int) (leaf : Int) (d : List Int) : (eQ x leaf d).length = 68 := by simp [eQ]
theorem gV (x : List Int) (h leaf : Nat) : (dF x h leaf).length = h := by simp [dF]
structure ZzBox (w w0 : World) : Prop where
 y : w0.heap[w.heap.size]? = some (.cells (sgA bJ 0 0) 39 (0, 0))
 z : w0.heap[w.heap.size + 1]? = some (.cells (siA 0 aL aL) 67 (0, 0))
 b : Below w.heap.size w w0
 k : w0.heap.size = w.heap.size + 2
theorem ZzBox.new (w : World) : ZzBox w ((w.alloc (.cells (sgA bJ 0 0) 39)).alloc (.cells (siA 0 aL aL) 67)) :=
 ⟨(heap_alloc_old _ _ (by simp)).trans (heap_alloc_new w _), by have h := heap_alloc_new (w.alloc (.cells (sgA bJ 0 0) 39)) (.cells (siA 0 aL aL) 67); rw [World.size_alloc] at h; exact h, ((Below.refl _ _).alloc (Nat.le_refl _) _).alloc (by simp) _, by simp⟩
structure PkRow (w : World) (h : Int) (r : List Int) (w0 : World) : Prop where
 k : w0.heap[w.heap.size]? = some (.cells (pkA h r) 64 (0, 0))
 b : Below w.heap.size w w0
 s : w0.heap.size = w.heap.size + 1
theorem PkRow.new (w : World) (h : Int) (r : List Int) : PkRow w h r (w.alloc (.cells (pkA h r) 64)) := ⟨heap_alloc_new w _, aB _ _, aH _ _⟩
end Go.Proofs.YtjeiiabpdoelpaaGreatDoor
