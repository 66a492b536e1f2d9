/-
  The walk of the statement SnapshotComposes (conditions: digests of 32 bytes).
-/
import Derived.Test.YtkookkhlgllneaaDoorGe
namespace Go.Proofs.YtkookkhlgllneaaDoor
open Go.RowKit

/-- what a result holds -/
def vC : Except Int (List Cg) → List Cg × Int
  | .error k => ([], k)
  | .ok l => (l, 0)
theorem ResC.uni {w w' : World} {r : Except Int (List Cg)} {e : Ending} (h : ResC w r e w') : ∃ sp n cap, e = .returned (.tuple #[.slice sp n cap, .int .i64 (vC r).2]) ∧ CgsIn w' w'.heap.size sp n cap (vC r).1 ∧ Below w.heap.size w w' := by
  cases r with
  | error k =>
    obtain ⟨he, hb⟩ := h
    exact ⟨none, 0, 0, he, ⟨rfl, fun x hx => (by cases hx), fun h => by omega⟩, hb⟩
  | ok l =>
    obtain ⟨sp, cap, he, ho, hb⟩ := h
    exact ⟨sp, l.length, cap, he, ho.cgs rfl, hb⟩
theorem sCompose_short (a b : List Cg) : (vC (sCompose a b)).1.length ≤ 1000 := by
  unfold sCompose
  split
  · cases fol a b with
    | none => simp [finC, vC]
    | some l =>
      show (vC (if 128 < l.length then .error 3 else .ok l)).1.length ≤ 1000
      split
      · simp [vC]
      · simp [vC]; omega
  · simp [vC]
theorem sInvert_short (l : List Cg) : (vC (sInvert l)).1.length ≤ 1000 := by
  unfold sInvert
  split
  · rename_i h
    have := (vldC_parts h).1
    simp [vC, inv]; omega
  · simp [vC]
end Go.Proofs.YtkookkhlgllneaaDoor
