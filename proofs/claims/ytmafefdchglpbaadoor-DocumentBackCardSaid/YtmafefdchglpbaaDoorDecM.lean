/-
  Plain mathematics: what is read is not longer when it is encoded (no program is named here but for its name space).
-/
import Derived.Test.YtmafefdchglpbaaDoorDecE
namespace Go.Proofs.YtmafefdchglpbaaDoor
open Go.RowKit

theorem unwL_len : ∀ (n : Nat) (t m : List UInt8), t.length ≤ n → unwL t = some m → (m.flatMap encB).length ≤ t.length
  | _, [], m, _, h => by
    have : m = [] := by simpa [unwL] using h.symm
    subst this; exact Nat.le_refl _
  | 0, c :: t, _, hn, _ => by simp at hn
  | n + 1, c :: t, m, hn, h => by
    have hn' : t.length ≤ n := by simpa using hn
    by_cases hp : plnB c.toNat = true
    · rw [unwL_plain hp] at h
      cases hu : unwL t with
      | none => rw [hu] at h; cases h
      | some m' =>
        rw [hu] at h
        have e : m = c :: m' := by simpa using h.symm
        subst e
        rw [List.flatMap_cons, encB_plain hp, List.length_append]
        have := unwL_len n t m' hn' hu
        rw [List.length_singleton, List.length_cons]; omega
    · have hp' : plnB c.toNat = false := by simpa using hp
      by_cases hc : c = 37
      · subst hc
        rw [unwL_esc] at h
        cases he : escD t with
        | none => rw [he] at h; cases h
        | some v =>
          rw [he] at h
          have ht : 2 ≤ t.length := by
            match t, he with
            | [], he => simp [escD] at he
            | [_], he => simp [escD] at he
            | _ :: _ :: _, _ => simp
          cases hu : unwL (t.drop 2) with
          | none => rw [hu] at h; cases h
          | some m' =>
            rw [hu] at h
            have e : m = v :: m' := by simpa using h.symm
            subst e
            rw [List.flatMap_cons, List.length_append]
            have h1 := unwL_len n (t.drop 2) m' (by rw [List.length_drop]; omega) hu
            rw [List.length_drop] at h1
            have h2 := encB_le v
            rw [List.length_cons]; omega
      · rw [unwL_other hp' hc] at h; cases h
theorem unword_len {t m : List UInt8} (h : unword t = some m) : (wordL m).length ≤ t.length := by
  unfold unword at h
  by_cases h0 : t = []
  · rw [if_pos h0] at h; cases h
  · rw [if_neg h0] at h
    have hp : 1 ≤ t.length := by cases t with
      | nil => exact absurd rfl h0
      | cons _ _ => simp
    by_cases h1 : t = [126]
    · rw [if_pos h1] at h
      have e : m = [] := by simpa using h.symm
      subst e; exact hp
    · rw [if_neg h1] at h
      unfold wordL
      split
      · exact hp
      · exact unwL_len _ t m (Nat.le_refl _) h
theorem unwsL_len : ∀ (ws xs : List ByteArray), unwsL ws = some xs → (body xs).length ≤ (ws.map fun x => x.size + 1).sum ∧ xs.length = ws.length
  | [], xs, h => by
    have : xs = [] := by simpa [unwsL] using h.symm
    subst this; exact ⟨Nat.le_refl _, rfl⟩
  | s :: r, xs, h => by
    cases hu : unwS s with
    | none => rw [unwsL_none hu] at h; cases h
    | some x =>
      rw [unwsL_some hu] at h
      cases hr : unwsL r with
      | none => rw [hr] at h; cases h
      | some xs' =>
        rw [hr] at h
        have e : xs = x :: xs' := by simpa using h.symm
        subst e
        obtain ⟨h1, h2⟩ := unwsL_len r xs' hr
        have h3 : (wordL x.data.toList).length ≤ s.data.toList.length := by
          unfold unwS at hu
          cases hw : unword s.data.toList with
          | none => rw [hw] at hu; cases hu
          | some m =>
            rw [hw] at hu
            have e : x = ⟨m.toArray⟩ := by simpa using hu.symm
            subst e
            exact unword_len hw
        rw [← Lib.size_eq] at h3
        refine ⟨?_, by simp [h2]⟩
        unfold body at h1 ⊢
        rw [List.flatMap_cons, List.length_append, List.length_append, List.map_cons, List.sum_cons, List.length_singleton]
        omega
theorem split_sum (c : UInt8) : ∀ (k : Nat) (s : ByteArray), Lib.countB s (oneB c) = k → ((Lib.splitB (oneB c) 0 k s).map fun x => x.size + 1).sum = s.size + 1
  | 0, s, _ => by rw [Lib.splitB_zero]; simp
  | k + 1, s, hk => by
    rcases Lib.indexB_cases s (oneB c) with hix | ⟨i, hix, hroom⟩
    · rw [Lib.countB_miss s (oneB c) hix] at hk; omega
    · have ih := split_sum c k (s.extract (i + (oneB c).size) s.size) (by have := Lib.countB_hit s (oneB c) i (Nat.le_refl _) hix; omega)
      rw [Lib.splitB_hit (oneB c) 0 k s i hix, List.map_cons, List.sum_cons, ih]
      rw [oneB_size] at hroom ⊢
      rw [ByteArray.size_extract, ByteArray.size_extract]
      omega
theorem line_len {s : ByteArray} {xs : List ByteArray} (h : unwsL (pcs 32 s) = some xs) : (lineL xs).length ≤ s.size + 1 := by
  obtain ⟨h1, h2⟩ := unwsL_len _ _ h
  have h3 := split_sum 32 _ s rfl
  have h4 := pcs_len 32 s
  unfold pcs at h1 h4
  rw [h3] at h1
  unfold lineL
  rw [List.length_append, List.length_dropLast]
  have : 0 < (body xs).length := by
    cases xs with
    | nil => unfold pcs at h2; rw [List.length_nil] at h2; omega
    | cons x r => unfold body; rw [List.flatMap_cons]; simp; omega
  simp; omega
theorem unlL_len : ∀ (ws : List ByteArray) (L : List (List ByteArray)), unlL ws = some L → (encL L).length ≤ (ws.map fun x => x.size + 1).sum
  | [], L, h => by
    have : L = [] := by simpa [unlL] using h.symm
    subst this; exact Nat.le_refl _
  | s :: r, L, h => by
    cases hu : unwsL (pcs 32 s) with
    | none => rw [unlL_none hu] at h; cases h
    | some x =>
      rw [unlL_some hu] at h
      cases hr : unlL r with
      | none => rw [hr] at h; cases h
      | some L' =>
        rw [hr] at h
        have e : L = x :: L' := by simpa using h.symm
        subst e
        have h1 := unlL_len r L' hr
        have h2 := line_len hu
        unfold encL at h1 ⊢
        rw [List.flatMap_cons, List.length_append, List.map_cons, List.sum_cons]
        omega
theorem rdoc_len {S : ByteArray} {L : List (List ByteArray)} (h : rdoc S = some L) : (encL L).length ≤ S.size := by
  unfold rdoc at h
  by_cases h0 : S.data.toList = []
  · rw [if_pos h0] at h
    have e : L = [] := by simpa using h.symm
    subst e; exact Nat.zero_le _
  · rw [if_neg h0] at h
    by_cases h1 : endN S = true
    · rw [if_pos h1] at h
      have h2 := unlL_len _ _ h
      have h3 := split_sum 10 _ (S.extract 0 (S.size - 1)) rfl
      unfold pcs at h2
      rw [h3, ByteArray.size_extract] at h2
      have : 0 < S.size := by rw [Lib.size_eq]; cases hd : S.data.toList with
        | nil => exact absurd hd h0
        | cons _ _ => simp
      omega
    · rw [if_neg h1] at h; cases h
/-- the error of encoding what was read: that of its lines alone -/
theorem rdoc_enc {S : ByteArray} {L : List (List ByteArray)} (h : rdoc S = some L) (hs : S.size ≤ 262144) : (enc L).1 = chk L := by
  have := rdoc_len h
  unfold enc
  split
  · rename_i hk
    rw [if_neg (by omega), hk]
  · rfl
end Go.Proofs.YtmafefdchglpbaaDoor
