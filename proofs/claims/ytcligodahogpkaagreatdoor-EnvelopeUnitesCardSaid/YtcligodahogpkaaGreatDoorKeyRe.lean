/-
  Keys of many one-time keys: the walk of the reference's Same on two signatures with the same lists.
-/
import Derived.Test.YtcligodahogpkaaGreatDoorKeyRd
set_option maxRecDepth 100000
set_option maxHeartbeats 8000000
namespace Go.Proofs.YtcligodahogpkaaGreatDoor
open Go.RowKit Go.Proofs.YtcligodahogpkaaGreatDoor.One
structure SsBox (w : World) (l : Int) (c p c' p' : Value) (w0 : World) : Prop where
 a : w0.heap[w.heap.size]? = some (.cells (siA l c p) 60 (0, 0))
 d : w0.heap[w.heap.size + 1]? = some (.cells (siA l c' p') 60 (0, 0))
 b : Below w.heap.size w w0
 s : w0.heap.size = w.heap.size + 2
theorem SsBox.new (w : World) (l : Int) (c p c' p' : Value) : SsBox w l c p c' p' ((w.alloc (.cells (siA l c p) 60)).alloc (.cells (siA l c' p') 60)) :=
 ⟨(heap_alloc_old _ _ (by simp)).trans (heap_alloc_new w _), by have h := heap_alloc_new (w.alloc (.cells (siA l c p) 60)) (.cells (siA l c' p') 60); rw [World.size_alloc] at h; exact h, ((Below.refl _ _).alloc (Nat.le_refl _) _).alloc (by simp) _, by simp⟩
end Go.Proofs.YtcligodahogpkaaGreatDoor
