/-
  Versions, the reference: the walks of order, identifier and sign (strings of at most 100000 bytes).
-/
import Derived.Test.YtceeilojcifgeaaDoorVrfE
namespace Go.Proofs.YtceeilojcifgeaaDoor
open Go.RowKit

theorem zs_stop {a : BL} (h : a = [] ∨ ∃ c r, a = c :: r ∧ c ≠ 48) : zs a = a := by
  rcases h with rfl | ⟨c, r, rfl, hc⟩
  · rfl
  · unfold zs; rw [List.dropWhile_cons, if_neg (by simp [hc])]
theorem zs_idem (a : BL) : zs (zs a) = zs a := by
  apply zs_stop
  cases h : zs a with
  | nil => exact .inl rfl
  | cons c r => exact .inr ⟨c, r, rfl, fun e => by have := dw_head (· == 48) a c r h; rw [e] at this; cases this⟩
/-- what a round of the loop over the zeros meets -/
theorem zs_round (a : BL) : ∃ r : ByteArray, bs a = r ∧ r.size = a.length ∧ ((r.size = 0 ∧ zs a = a) ∨ (∃ h : 0 < r.size, ((r[0].toNat : Int) == 48) = false ∧ zs a = a) ∨ (∃ h : 0 < r.size, ((r[0].toNat : Int) == 48) = true ∧ ∃ a', r.extract 1 r.size = bs a' ∧ zs a' = zs a ∧ a'.length < a.length)) := by
  obtain ⟨r, hr, hg, hs, -, hd⟩ := bs_facts a
  refine ⟨r, hr, hs, ?_⟩
  cases a with
  | nil => exact .inl ⟨by rw [hs]; rfl, rfl⟩
  | cons c a =>
    have h0 : 0 < r.size := by rw [hs]; simp
    have hc := hg 0 h0 (by simp)
    by_cases h : c = 48
    · refine .inr (.inr ⟨h0, ?_, a, hd 1, ?_, by simp⟩)
      · rw [hc]; subst h; rfl
      · subst h; unfold zs; rw [List.dropWhile_cons, if_pos (by rfl)]
    · refine .inr (.inl ⟨h0, ?_, zs_stop (.inr ⟨c, a, rfl, h⟩)⟩)
      rw [hc]; exact ne_int (d := 48) h
end Go.Proofs.YtceeilojcifgeaaDoor
