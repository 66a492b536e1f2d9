/-
  Plain mathematics: what is read is encoded as it was, and what is encoded is read (no program is named here but for its name space).
-/
import Derived.Test.YtdjknefbaclleaaGreatDoorGd
namespace Go.Proofs.YtdjknefbaclleaaGreatDoor
open Go.RowKit

theorem hexU_hexVF : ∀ c : Fin 256, hexV (UInt8.ofNat c.val) < 16 → hexU (hexV (UInt8.ofNat c.val)) = UInt8.ofNat c.val := by decide +kernel
theorem hexU_hexV (c : UInt8) (h : hexV c < 16) : hexU (hexV c) = c := by
  have := hexU_hexVF ⟨c.toNat, UInt8.toNat_lt _⟩
  simp only [UInt8.ofNat_toNat] at this
  exact this h
theorem escV_enc {a b v : UInt8} (h : escV a b = some v) : encB v = [37, a, b] := by
  unfold escV at h
  by_cases h1 : hexV a = 16 ∨ hexV b = 16
  · rw [if_pos h1] at h; cases h
  · rw [if_neg h1] at h
    have ha : hexV a < 16 := by have := hexV_le a; omega
    have hb : hexV b < 16 := by have := hexV_le b; omega
    by_cases h2 : plnB ((16 * hexV a + hexV b : Nat) : Int) = true
    · rw [if_pos h2] at h; cases h
    · rw [if_neg h2] at h
      have e : v = UInt8.ofNat (16 * hexV a + hexV b) := by simpa using h.symm
      have en : v.toNat = 16 * hexV a + hexV b := by rw [e]; simp; omega
      have hp : plnB v.toNat = false := by rw [en]; simpa using h2
      rw [encB_esc hp, en, show (16 * hexV a + hexV b) / 16 = hexV a by omega, show (16 * hexV a + hexV b) % 16 = hexV b by omega, hexU_hexV a ha, hexU_hexV b hb]
theorem unwL_back : ∀ (n : Nat) (t m : List UInt8), t.length ≤ n → unwL t = some m → m.flatMap encB = t
  | _, [], m, _, h => by
    have : m = [] := by simpa [unwL] using h.symm
    subst this; rfl
  | 0, c :: t, _, hn, _ => by simp at hn
  | n + 1, c :: t, m, hn, h => by
    have hn' : t.length ≤ n := by simpa using hn
    by_cases hp : plnB c.toNat = true
    · rw [unwL_plain hp] at h
      cases hu : unwL t with
      | none => rw [hu] at h; cases h
      | some m' =>
        rw [hu] at h
        have e : m = c :: m' := by simpa using h.symm
        subst e
        rw [List.flatMap_cons, encB_plain hp, unwL_back n t m' hn' hu]; rfl
    · have hp' : plnB c.toNat = false := by simpa using hp
      by_cases hc : c = 37
      · subst hc
        rw [unwL_esc] at h
        match t, hn', h with
        | [], _, h => simp [escD] at h
        | [_], _, h => simp [escD] at h
        | a :: b :: r, hn', h =>
          have he : escD (a :: b :: r) = escV a b := rfl
          rw [he] at h
          cases hv : escV a b with
          | none => rw [hv] at h; cases h
          | some v =>
            rw [hv] at h
            have hdr : (a :: b :: r).drop 2 = r := rfl
            rw [hdr] at h
            cases hu : unwL r with
            | none => rw [hu] at h; cases h
            | some m' =>
              rw [hu] at h
              have e : m = v :: m' := by simpa using h.symm
              subst e
              rw [List.flatMap_cons, escV_enc hv, unwL_back n r m' (by simp at hn'; omega) hu]; rfl
      · rw [unwL_other hp' hc] at h; cases h
theorem unword_back {t m : List UInt8} (h : unword t = some m) : wordL m = t := by
  unfold unword at h
  by_cases h0 : t = []
  · rw [if_pos h0] at h; cases h
  · rw [if_neg h0] at h
    by_cases h1 : t = [126]
    · rw [if_pos h1] at h
      have e : m = [] := by simpa using h.symm
      subst e; rw [h1]; rfl
    · rw [if_neg h1] at h
      have hb := unwL_back _ t m (Nat.le_refl _) h
      unfold wordL
      split
      · rename_i hm; subst hm; exact absurd hb.symm h0
      · exact hb
/-- pieces, each with the separator behind it -/
def glue (c : UInt8) (ws : List ByteArray) : List UInt8 := ws.flatMap fun x => x.data.toList ++ [c]
theorem unwsL_back : ∀ (ws xs : List ByteArray), unwsL ws = some xs → body xs = glue 32 ws
  | [], xs, h => by
    have : xs = [] := by simpa [unwsL] using h.symm
    subst this; rfl
  | s :: r, xs, h => by
    cases hu : unwS s with
    | none => rw [unwsL_none hu] at h; cases h
    | some x =>
      rw [unwsL_some hu] at h
      cases hr : unwsL r with
      | none => rw [hr] at h; cases h
      | some xs' =>
        rw [hr] at h
        have e : xs = x :: xs' := by simpa using h.symm
        subst e
        have h1 := unwsL_back r xs' hr
        have h3 : wordL x.data.toList = s.data.toList := by
          unfold unwS at hu
          cases hw : unword s.data.toList with
          | none => rw [hw] at hu; cases hu
          | some m =>
            rw [hw] at hu
            have e : x = ⟨m.toArray⟩ := by simpa using hu.symm
            subst e
            exact unword_back hw
        unfold body glue at h1 ⊢
        rw [List.flatMap_cons, List.flatMap_cons, h3, h1]
theorem split_glue (c : UInt8) : ∀ (k : Nat) (s : ByteArray), Lib.countB s (oneB c) = k → glue c (Lib.splitB (oneB c) 0 k s) = s.data.toList ++ [c]
  | 0, s, _ => by rw [Lib.splitB_zero]; unfold glue; simp
  | k + 1, s, hk => by
    rcases Lib.indexB_cases s (oneB c) with hix | ⟨i, hix, hroom⟩
    · rw [Lib.countB_miss s (oneB c) hix] at hk; omega
    · have ih := split_glue c k (s.extract (i + (oneB c).size) s.size) (by have := Lib.countB_hit s (oneB c) i (Nat.le_refl _) hix; omega)
      rw [Lib.splitB_hit (oneB c) 0 k s i hix]
      unfold glue at ih ⊢
      rw [List.flatMap_cons, ih]
      rw [oneB_size] at hroom ⊢
      rw [indexB_oneS] at hix
      have hi := (Lib.indexByte_some hix).1
      obtain ⟨hlt, hge⟩ := List.getElem?_eq_some_iff.1 hi
      have e1 : (s.extract 0 (i + 0)).data.toList = s.data.toList.take i := by
        rw [ByteArray.data_extract, Array.toList_extract, List.extract_eq_take_drop]; simp
      have e2 : (s.extract (i + 1) s.size).data.toList = s.data.toList.drop (i + 1) := by
        rw [ByteArray.data_extract, Array.toList_extract, List.extract_eq_take_drop]
        exact List.take_of_length_le (by rw [List.length_drop, ← Lib.size_eq]; exact Nat.le_refl _)
      rw [e1, e2]
      have h := List.take_append_drop i s.data.toList
      rw [List.drop_eq_getElem_cons hlt, hge] at h
      have e3 : s.data.toList.take i ++ [c] ++ (s.data.toList.drop (i + 1) ++ [c]) = (s.data.toList.take i ++ c :: s.data.toList.drop (i + 1)) ++ [c] := by simp
      rw [e3, h]
theorem line_back {s : ByteArray} {xs : List ByteArray} (h : unwsL (pcs 32 s) = some xs) : lineL xs = s.data.toList ++ [10] := by
  have h1 := unwsL_back _ _ h
  have h2 := split_glue 32 _ s rfl
  unfold pcs at h1
  unfold lineL
  rw [h1, h2]; simp
theorem unlL_back : ∀ (ws : List ByteArray) (L : List (List ByteArray)), unlL ws = some L → encL L = glue 10 ws
  | [], L, h => by
    have : L = [] := by simpa [unlL] using h.symm
    subst this; rfl
  | s :: r, L, h => by
    cases hu : unwsL (pcs 32 s) with
    | none => rw [unlL_none hu] at h; cases h
    | some x =>
      rw [unlL_some hu] at h
      cases hr : unlL r with
      | none => rw [hr] at h; cases h
      | some L' =>
        rw [hr] at h
        have e : L = x :: L' := by simpa using h.symm
        subst e
        have h1 := unlL_back r L' hr
        have h2 := line_back hu
        unfold encL glue at h1 ⊢
        rw [List.flatMap_cons, List.flatMap_cons, h2, h1]
/-- what is read is encoded as it was -/
theorem rdoc_back {S : ByteArray} {L : List (List ByteArray)} (h : rdoc S = some L) : encL L = S.data.toList := by
  unfold rdoc at h
  by_cases h0 : S.data.toList = []
  · rw [if_pos h0] at h
    have e : L = [] := by simpa using h.symm
    subst e; rw [h0]; rfl
  · rw [if_neg h0] at h
    by_cases h1 : endN S = true
    · rw [if_pos h1] at h
      have h2 := unlL_back _ _ h
      have h3 := split_glue 10 _ (S.extract 0 (S.size - 1)) rfl
      unfold pcs at h2
      rw [h2, h3]
      unfold endN at h1
      have h4 : S.data.toList.getLast? = some 10 := by simpa using h1
      rw [ByteArray.data_extract, Array.toList_extract, List.extract_eq_take_drop, List.drop_zero, Nat.sub_zero, Lib.size_eq, ← List.dropLast_eq_take]
      obtain ⟨ys, hy⟩ := List.getLast?_eq_some_iff.1 h4
      rw [hy, List.dropLast_concat]
    · rw [if_neg h1] at h; cases h
end Go.Proofs.YtdjknefbaclleaaGreatDoor
