/-
  The walk of the reference's Diff (conditions: digests of 32 bytes, at most 100000 elements; a nil slice has no room).
-/
import Derived.Test.YtecllfbadciaoaaGreatDoorQ20
set_option maxRecDepth 100000
set_option maxHeartbeats 8000000
namespace Go.Proofs.YtecllfbadciaoaaGreatDoor
open Go.RowKit
structure DqS (w : World) (v : Value) (out : List Cg) (bx : Nat) (d : List Int) (W : World) : Prop where
 own : OwnC W w.heap.size v out
 dp : DpS w bx d W
theorem DqS.next {w : World} {v : Value} {out : List Cg} {bx : Nat} {d : List Int} {W W' : World} (h : DqS w v out bx d W) (hb : Below W.heap.size W W') : DqS w v out bx d W' :=
 ⟨h.own.below hb, h.dp.next hb⟩
end Go.Proofs.YtecllfbadciaoaaGreatDoor
