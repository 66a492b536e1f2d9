/-
  Versions, the reference: Order, Scheme and Compare answer as the program does (strings of at most 90000 bytes).
-/
import Derived.Test.YtceeilojcifgeaaDoorVorE
namespace Go.Proofs.YtceeilojcifgeaaDoor
open Go.RowKit

theorem semT_inv {core : BL} {ids ls p : List BL} (h : semT core ids = some (ls, p)) : ls = spl 46 core ∧ p = ids := by
  unfold semT at h
  rcases hs : spl 46 core with _ | ⟨a, _ | ⟨b, _ | ⟨c, _ | ⟨d, r⟩⟩⟩⟩ <;> rw [hs] at h
  · cases h
  · cases h
  · cases h
  · simp only [] at h
    split at h
    · injection h with h; injection h with h1 h2; exact ⟨h1.symm, h2.symm⟩
    · cases h
  · cases h
theorem semP_len {body : BL} {ls p : List BL} (h : semP body = some (ls, p)) : (∀ x ∈ ls ++ p, x.length ≤ body.length) ∧ p.length ≤ body.length + 1 := by
  have hc := cutL_len 45 body
  unfold semP at h
  split at h
  · split at h
    · obtain ⟨rfl, rfl⟩ := semT_inv h
      refine ⟨fun x hx => ?_, ?_⟩
      · rcases List.mem_append.1 hx with hx | hx
        · exact Nat.le_trans (spl_len _ _ x hx) hc.1
        · exact Nat.le_trans (spl_len _ _ x hx) hc.2
      · have := spl_count 46 (cutL 45 body).2.1; omega
    · cases h
  · obtain ⟨rfl, rfl⟩ := semT_inv h
    refine ⟨fun x hx => ?_, by simp⟩
    rw [List.append_nil] at hx
    exact Nat.le_trans (spl_len _ _ x hx) hc.1
theorem semR_len {l : BL} {ls p : List BL} (h : semR l = some (ls, p)) : (∀ x ∈ ls ++ p, x.length ≤ l.length) ∧ p.length ≤ l.length + 1 := by
  have hc := cutL_len 43 l
  unfold semR at h
  split at h
  · split at h
    · obtain ⟨h1, h2⟩ := semP_len h
      exact ⟨fun x hx => Nat.le_trans (h1 x hx) hc.1, by omega⟩
    · cases h
  · obtain ⟨h1, h2⟩ := semP_len h
    exact ⟨fun x hx => Nat.le_trans (h1 x hx) hc.1, by omega⟩
theorem ups_len (l : BL) : (upsD l).length ≤ l.length := by unfold upsD; split; exact Nat.le_refl _; rw [List.length_take]; omega
theorem rev_len (l : BL) : (revD l).length ≤ l.length := by unfold revD; split; simp; rw [List.length_drop]; omega
theorem debR2_len {ep rest : BL} {p : List BL} (h : debR2 ep rest = some p) : p = [ep, upsD rest, revD rest] := by
  unfold debR2 at h
  split at h
  · cases h
  · split at h
    · injection h with h; exact h.symm
    · cases h
theorem debR_len {l : BL} {p : List BL} (h : debR l = some p) : ∀ x ∈ p, x.length ≤ l.length + 1 := by
  have hc := cutL_len 58 l
  unfold debR at h
  split at h
  · rw [debR2_len h]
    intro x hx
    have h1 := ups_len (cutL 58 l).2.1; have h2 := rev_len (cutL 58 l).2.1
    rcases List.mem_cons.1 hx with rfl | hx
    · omega
    · rcases List.mem_cons.1 hx with rfl | hx
      · omega
      · rw [List.mem_singleton.1 hx]; omega
  · rw [debR2_len h]
    intro x hx
    have h1 := ups_len l; have h2 := rev_len l
    rcases List.mem_cons.1 hx with rfl | hx
    · simp
    · rcases List.mem_cons.1 hx with rfl | hx
      · omega
      · rw [List.mem_singleton.1 hx]; omega
theorem val_keyO {s : Int} {l : BL} (hs : schB s = true) (h : valB s l = true) : ∃ k, keyO s l = some k ∧ keyR s l = (k, 0) ∧ l.length ≤ 64 := by
  rw [valB_some hs] at h
  cases hk : keyO s l with
  | none => rw [hk] at h; cases h
  | some k =>
    refine ⟨k, rfl, keyR_some hs hk, ?_⟩
    rcases Nat.lt_or_ge 64 l.length with h64 | h64
    · unfold keyO at hk; rw [if_pos h64] at hk; cases hk
    · exact h64
theorem keyR_bad {s : Int} {l : BL} (hs : schB s = true) (h : valB s l = false) : (keyR s l).2 = 1 := by
  rw [valB_some hs] at h
  cases hk : keyO s l with
  | none => rw [keyR_none hs hk]
  | some k => rw [hk] at h; cases h
end Go.Proofs.YtceeilojcifgeaaDoor
