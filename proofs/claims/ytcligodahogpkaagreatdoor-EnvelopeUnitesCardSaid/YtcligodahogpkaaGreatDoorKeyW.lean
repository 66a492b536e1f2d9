/-
  Keys of many one-time keys: what a signer signs verifies; the walks of low and awake (condition: the table of constants reads as it is laid).
-/
import Derived.Test.YtcligodahogpkaaGreatDoorKeyV
set_option maxRecDepth 100000
set_option maxHeartbeats 8000000
namespace Go.Proofs.YtcligodahogpkaaGreatDoor
open Go.RowKit Go.Proofs.YtcligodahogpkaaGreatDoor.One
theorem pubN (x : List Int) (i : Nat) : EO x (i : Int) = iO x 0 i := rfl
theorem EV {x d : List Int} {h leaf : Nat} (hd : D32 d) (hh : h ≤ 6) (hl : leaf < 2 ^ h) : IN (h : Int) (iO x h 0) d (leaf : Int) 68 h (fF x leaf d) (dM x h leaf) = true := by
 unfold IN
 have h1 : lC (h : Int) (leaf : Int) 68 h = true := by
  unfold lC
  rw [decide_eq_true]
  refine ⟨by omega, by omega, ?_, rfl, rfl⟩
  unfold lvN; rw [Int.toNat_natCast]; omega
 rw [h1, Bool.true_and, Int.toNat_natCast, Int.toNat_natCast, tK (x := x) (leaf : Int) hd, pubN, ET x hl]
 exact decide_eq_true rfl
theorem FE {h leaf : Nat} (hh : h ≤ 6) (hl : leaf < 2 ^ h) : lC (h : Int) (leaf : Int) 68 h = true := by
 unfold lC
 rw [decide_eq_true]
 refine ⟨by omega, by omega, ?_, rfl, rfl⟩
 unfold lvN; rw [Int.toNat_natCast]; omega
theorem jY (x : List Int) (leaf : Int) (d : List Int) : (fF x leaf d).length = 68 := by simp [fF]
theorem iM (x : List Int) (h leaf : Nat) : (dM x h leaf).length = h := by simp [dM]
structure ZzBox (w w0 : World) : Prop where
 y : w0.heap[w.heap.size]? = some (.cells (sgA bK 0 0) 64 (0, 0))
 z : w0.heap[w.heap.size + 1]? = some (.cells (siA 0 aM aM) 60 (0, 0))
 b : Below w.heap.size w w0
 k : w0.heap.size = w.heap.size + 2
theorem ZzBox.new (w : World) : ZzBox w ((w.alloc (.cells (sgA bK 0 0) 64)).alloc (.cells (siA 0 aM aM) 60)) :=
 ⟨(heap_alloc_old _ _ (by simp)).trans (heap_alloc_new w _), by have h := heap_alloc_new (w.alloc (.cells (sgA bK 0 0) 64)) (.cells (siA 0 aM aM) 60); rw [World.size_alloc] at h; exact h, ((Below.refl _ _).alloc (Nat.le_refl _) _).alloc (by simp) _, by simp⟩
structure PkRow (w : World) (h : Int) (r : List Int) (w0 : World) : Prop where
 k : w0.heap[w.heap.size]? = some (.cells (pkA h r) 56 (0, 0))
 b : Below w.heap.size w w0
 s : w0.heap.size = w.heap.size + 1
theorem PkRow.new (w : World) (h : Int) (r : List Int) : PkRow w h r (w.alloc (.cells (pkA h r) 56)) := ⟨heap_alloc_new w _, aB _ _, aK _ _⟩
end Go.Proofs.YtcligodahogpkaaGreatDoor
