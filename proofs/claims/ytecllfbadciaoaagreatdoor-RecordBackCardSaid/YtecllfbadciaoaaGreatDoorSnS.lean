/-
  The walk of the reference's Apply (conditions: digests of 32 bytes, at most 100000 elements; a nil slice has no room).
-/
import Derived.Test.YtecllfbadciaoaaGreatDoorQ6
set_option maxRecDepth 100000
set_option maxHeartbeats 8000000
namespace Go.Proofs.YtecllfbadciaoaaGreatDoor
open Go.RowKit
structure DpS (w : World) (bx : Nat) (d : List Int) (W : World) : Prop where
 below : Below w.heap.size w W
 box : W.heap[bx]? = some (.cells (d.map (Value.int .u8)).toArray 80 (0, 0))
theorem DpS.lt {w : World} {bx : Nat} {d : List Int} {W : World} (h : DpS w bx d W) : bx < W.heap.size := (Array.getElem?_eq_some_iff.1 h.box).1
theorem DpS.next {w : World} {bx : Nat} {d : List Int} {W W' : World} (h : DpS w bx d W) (hb : Below W.heap.size W W') : DpS w bx d W' :=
 ⟨h.below.trans (hb.mono h.below.size), (hb.block bx h.lt).trans h.box⟩
theorem DpS.row {w : World} {bx : Nat} {d : List Int} {W : World} (h : DpS w bx d W) : W.rangeAt bx 0 (d.map (Value.int .u8)) := range_row (pre := []) (post := []) h.box (by simp) rfl
end Go.Proofs.YtecllfbadciaoaaGreatDoor
