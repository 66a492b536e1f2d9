/-
  The walk of the reference's Compose (conditions: digests of 32 bytes, at most 100000 elements; a nil slice has no room).
-/
import Derived.Test.YtkookkhlgllneaaDoorSnP
namespace Go.Proofs.YtkookkhlgllneaaDoor
open Go.RowKit

theorem OwnC.nilcap {w : World} {base n cap : Nat} {sp : Option Addr} {l : List Cg} (h : OwnC w base (.slice sp n cap) l) : sp = none → cap = 0 := by
  rintro rfl
  obtain ⟨_, ⟨e, _⟩ | ⟨g, c, u, e, _⟩⟩ := h.1
  · injection e
  · cases e
theorem OwnE.nilcap {w : World} {base n cap : Nat} {sp : Option Addr} {l : List En} (h : OwnE w base (.slice sp n cap) l) : sp = none → cap = 0 := by
  rintro rfl
  obtain ⟨_, ⟨e, _⟩ | ⟨g, c, u, e, _⟩⟩ := h.1
  · injection e
  · cases e
/-- what is known on the way through a round: the list made so far, a change in a block of its own -/
structure CpS (w : World) (v : Value) (out : List Cg) (bx : Nat) (y : Cg) (W : World) : Prop where
  own : OwnC W w.heap.size v out
  below : Below w.heap.size w W
  box : CgB W bx y
theorem CpS.lt {w : World} {v : Value} {out : List Cg} {bx : Nat} {y : Cg} {W : World} (h : CpS w v out bx y W) : bx < W.heap.size := (Array.getElem?_eq_some_iff.1 h.box).1
theorem CpS.next {w : World} {v : Value} {out : List Cg} {bx : Nat} {y : Cg} {W W' : World} (h : CpS w v out bx y W) (hb : Below W.heap.size W W') : CpS w v out bx y W' :=
  ⟨h.own.below hb, h.below.trans (hb.mono h.below.size), h.box.below hb h.lt⟩
def sRCompose (a b : List Cg) : Except Int (List Cg) := if vldC a && vldC b then finC (rcomp a b) else .error 1
theorem vldC_parts {l : List Cg} (h : vldC l = true) : l.length ≤ 128 ∧ Srt Cg.p l ∧ ∀ x ∈ l, x.o ≠ x.n := by
  unfold vldC at h
  rw [Bool.and_eq_true, Bool.and_eq_true] at h
  refine ⟨by simpa using h.1.1, (ascB_iff l).1 h.2, fun x hx e => ?_⟩
  have h1 : l.any badC = false := by simpa using h.1.2
  have := List.any_eq_false.1 h1 x hx
  unfold badC at this
  rw [decide_eq_true e] at this; simp at this
theorem vldE_parts {l : List En} (h : vldE l = true) : l.length ≤ 64 ∧ Srt En.p l ∧ ∀ x ∈ l, x.d ≠ zed := by
  unfold vldE at h
  rw [Bool.and_eq_true, Bool.and_eq_true] at h
  refine ⟨by simpa using h.1.1, (ascB_iff l).1 h.2, fun x hx e => ?_⟩
  have h1 : l.any badE = false := by simpa using h.1.2
  have := List.any_eq_false.1 h1 x hx
  unfold badE at this
  rw [decide_eq_true e] at this; simp at this
theorem sRCompose_eq (a b : List Cg) : sRCompose a b = sCompose a b := by
  unfold sRCompose sCompose
  by_cases h : (vldC a && vldC b) = true
  · rw [if_pos h, if_pos h]
    rw [Bool.and_eq_true] at h
    rw [rcomp_eq (vldC_parts h.1).2.1 (vldC_parts h.2).2.1 (vldC_parts h.1).2.2 (vldC_parts h.2).2.2]
  · rw [if_neg h, if_neg h]
theorem foldM_step {α β : Type} {f : β → α → Option β} {l : List α} {i : β} {k : Nat} {x : α} {o : β} (h : (l.take k).foldlM f i = some o) (hx : l[k]? = some x) : (l.take (k + 1)).foldlM f i = f o x := by
  rw [List.take_add_one, hx, List.foldlM_append, h]
  show (List.foldlM f o [x]) = _
  simp [List.foldlM_cons, List.foldlM_nil]
theorem foldM_none {α β : Type} {f : β → α → Option β} {l : List α} {i : β} {k : Nat} (h : (l.take k).foldlM f i = none) : l.foldlM f i = none := by
  have e : l = l.take k ++ l.drop k := (List.take_append_drop k l).symm
  rw [e, List.foldlM_append, h]; rfl
theorem rc1_none {b out : List Cg} {x : Cg} (h : fd b x.p = none) : rc1 b out x = some (ins Cg.p out x) := by unfold rc1; rw [h]
theorem rc1_some {b out : List Cg} {x y : Cg} (h : fd b x.p = some y) : rc1 b out x = if x.n = y.o then (if x.o = y.n then some out else some (ins Cg.p out ⟨y.p, x.o, y.n⟩)) else none := by unfold rc1; rw [h]
theorem rc2_none {a out : List Cg} {y : Cg} (h : fd a y.p = none) : rc2 a out y = ins Cg.p out y := by unfold rc2; rw [h]
theorem rc2_some {a out : List Cg} {x y : Cg} (h : fd a y.p = some x) : rc2 a out y = out := by unfold rc2; rw [h]
end Go.Proofs.YtkookkhlgllneaaDoor
