/-
  The walk of the reference's Apply (conditions: digests of 32 bytes, at most 100000 elements; a nil slice has no room).
-/
import Derived.Test.YtkookkhlgllneaaDoorSnR
namespace Go.Proofs.YtkookkhlgllneaaDoor
open Go.RowKit

def finR : Option (List En) → Except Int (List En)
  | none => .error 9
  | some m => if 64 < m.length then .error 3 else .ok m
def sRApply (s : List En) (l : List Cg) : Except Int (List En) := if vldE s && vldC l then finR (rapp s l) else .error 1
theorem finA_eq (o : Option (List Cg)) : finA o = finR (match o with | none => none | some m => if m.any needB then none else some (m.map toE)) := by
  cases o with
  | none => rfl
  | some m =>
    rw [finA_some]
    show _ = finR (if m.any needB then none else some (m.map toE))
    split
    · rfl
    · show _ = (if 64 < (m.map toE).length then (.error 3 : Except Int (List En)) else .ok (m.map toE))
      rw [List.length_map]
theorem sRApply_eq (s : List En) (l : List Cg) : sRApply s l = sApply s l := by
  unfold sRApply sApply
  by_cases h : (vldE s && vldC l) = true
  · rw [if_pos h, if_pos h]
    rw [Bool.and_eq_true] at h
    rw [← capp_eq (vldE_parts h.1).2.1 (vldC_parts h.2).2.1 (vldE_parts h.1).2.2 (vldC_parts h.2).2.2, finA_eq]
    rfl
  · rw [if_neg h, if_neg h]
theorem dg?_ok {s : List En} (h : ∀ x ∈ s, OkE x) (p : ByteArray) : D32 (dg? s p) := by
  unfold dg?
  cases e : fe s p with
  | none => exact D32.zed
  | some x => exact h x (fe_some e).1
theorem LookRes.uni {w w' : World} {s : List En} {p : ByteArray} {e : Ending} (h : LookRes w (fe s p) e w') : ∃ c : Bool, e = .returned (.tuple #[.agg ((dg? s p).map (Value.int .u8)).toArray, .bool c]) ∧ Below w.heap.size w w' := by
  unfold dg?
  cases k : fe s p with
  | none => rw [k] at h; exact ⟨false, h⟩
  | some x => rw [k] at h; exact ⟨true, h⟩
theorem FindRes.uni {w w' : World} {l : List Cg} {p : ByteArray} {e : Ending} (hl : ∀ x ∈ l, OkC x) (h : FindRes w (fd l p) e w') : ∃ y : Cg, OkC y ∧ e = .returned (.tuple #[.agg (cgL y).toArray, .bool (fd l p).isSome]) ∧ Below w.heap.size w w' := by
  cases k : fd l p with
  | none => rw [k] at h; exact ⟨⟨⟨#[]⟩, zed, zed⟩, zeroCg_ok, h⟩
  | some x => rw [k] at h; exact ⟨x, hl x (fd_some k).1, h⟩
/-- on the way through a round: a digest in a block of its own -/
structure DpS (w : World) (bx : Nat) (d : List Int) (W : World) : Prop where
  below : Below w.heap.size w W
  box : W.heap[bx]? = some (.cells (d.map (Value.int .u8)).toArray 28 (0, 0))
theorem DpS.lt {w : World} {bx : Nat} {d : List Int} {W : World} (h : DpS w bx d W) : bx < W.heap.size := (Array.getElem?_eq_some_iff.1 h.box).1
theorem DpS.next {w : World} {bx : Nat} {d : List Int} {W W' : World} (h : DpS w bx d W) (hb : Below W.heap.size W W') : DpS w bx d W' :=
  ⟨h.below.trans (hb.mono h.below.size), (hb.block bx h.lt).trans h.box⟩
theorem DpS.row {w : World} {bx : Nat} {d : List Int} {W : World} (h : DpS w bx d W) : W.rangeAt bx 0 (d.map (Value.int .u8)) := range_row (pre := []) (post := []) h.box (by simp) rfl
theorem hA_zero {x : Cg} (h : x.n = zed) : hA x = none := by unfold hA; rw [if_pos h]
theorem hA_new {x : Cg} (h : x.n ≠ zed) : hA x = some ⟨x.p, x.n⟩ := by unfold hA; rw [if_neg h]
theorem fold_step {α β : Type} {f : β → α → β} {l : List α} {i : β} {k : Nat} {x : α} {o : β} (h : (l.take k).foldl f i = o) (hx : l[k]? = some x) : (l.take (k + 1)).foldl f i = f o x := by
  rw [List.take_add_one, hx, List.foldl_append, h]; rfl
end Go.Proofs.YtkookkhlgllneaaDoor
