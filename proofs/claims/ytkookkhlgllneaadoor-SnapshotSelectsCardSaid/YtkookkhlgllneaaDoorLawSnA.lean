/-
  The walk of the statement SnapshotApplies (conditions: digests of 32 bytes).
-/
import Derived.Test.YtkookkhlgllneaaDoorGe
namespace Go.Proofs.YtkookkhlgllneaaDoor
open Go.RowKit

/-- what a result holds -/
def vE : Except Int (List En) → List En × Int
  | .error k => ([], k)
  | .ok l => (l, 0)
theorem ResE.uni {w w' : World} {r : Except Int (List En)} {e : Ending} (h : ResE w r e w') : ∃ sp n cap, e = .returned (.tuple #[.slice sp n cap, .int .i64 (vE r).2]) ∧ EnsIn w' w'.heap.size sp n cap (vE r).1 ∧ Below w.heap.size w w' := by
  cases r with
  | error k =>
    obtain ⟨he, hb⟩ := h
    exact ⟨none, 0, 0, he, ⟨rfl, fun x hx => (by cases hx), fun h => by omega⟩, hb⟩
  | ok l =>
    obtain ⟨sp, cap, he, ho, hb⟩ := h
    exact ⟨sp, l.length, cap, he, ho.ens rfl, hb⟩
theorem sApply_short (s : List En) (l : List Cg) : (vE (sApply s l)).1.length ≤ 1000 := by
  rw [← sRApply_eq]
  unfold sRApply
  split
  · cases rapp s l with
    | none => simp [finR, vE]
    | some l =>
      show (vE (if 64 < l.length then .error 3 else .ok l)).1.length ≤ 1000
      split
      · simp [vE]
      · simp [vE]; omega
  · simp [vE]
end Go.Proofs.YtkookkhlgllneaaDoor
