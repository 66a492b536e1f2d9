/-
  The walk of the reference's Diff (conditions: digests of 32 bytes, at most 100000 elements; a nil slice has no room).
-/
import Derived.Test.YtkookkhlgllneaaDoorSnS
namespace Go.Proofs.YtkookkhlgllneaaDoor
open Go.RowKit

def sRDiff (a b : List En) : Except Int (List Cg) := if vldE a && vldE b then .ok (rdif a b) else .error 1
theorem sRDiff_eq (a b : List En) : sRDiff a b = sDiff a b := by
  unfold sRDiff sDiff
  by_cases h : (vldE a && vldE b) = true
  · rw [if_pos h, if_pos h]
    rw [Bool.and_eq_true] at h
    rw [cdif_eq (vldE_parts h.1).2.1 (vldE_parts h.2).2.1 (vldE_parts h.1).2.2 (vldE_parts h.2).2.2]
  · rw [if_neg h, if_neg h]
theorem LookRes.unj {w w' : World} {s : List En} {p : ByteArray} {e : Ending} (h : LookRes w (fe s p) e w') : e = .returned (.tuple #[.agg ((dg? s p).map (Value.int .u8)).toArray, .bool (fe s p).isSome]) ∧ Below w.heap.size w w' := by
  unfold dg?
  cases k : fe s p with
  | none => rw [k] at h; exact h
  | some x => rw [k] at h; exact h
/-- on the way through a round: the list made so far, a digest in a block of its own -/
structure DqS (w : World) (v : Value) (out : List Cg) (bx : Nat) (d : List Int) (W : World) : Prop where
  own : OwnC W w.heap.size v out
  dp : DpS w bx d W
theorem DqS.next {w : World} {v : Value} {out : List Cg} {bx : Nat} {d : List Int} {W W' : World} (h : DqS w v out bx d W) (hb : Below W.heap.size W W') : DqS w v out bx d W' :=
  ⟨h.own.below hb, h.dp.next hb⟩
theorem hD1_some {b : List En} {x : En} (h : dg? b x.p ≠ x.d) : hD1 b x = some ⟨x.p, x.d, dg? b x.p⟩ := by unfold hD1; rw [if_neg h]
theorem hD1_none {b : List En} {x : En} (h : dg? b x.p = x.d) : hD1 b x = none := by unfold hD1; rw [if_pos h]
theorem hD2_none {a : List En} {y z : En} (h : fe a y.p = some z) : hD2 a y = none := by unfold hD2; rw [h]
theorem hD2_some {a : List En} {y : En} (h : fe a y.p = none) : hD2 a y = some ⟨y.p, zed, y.d⟩ := by unfold hD2; rw [h]
end Go.Proofs.YtkookkhlgllneaaDoor
