/-
  Plain mathematics: what is encoded is read (no program is named here but for its name space).
-/
import Derived.Test.YtdjknefbaclleaaGreatDoorBckM
namespace Go.Proofs.YtdjknefbaclleaaGreatDoor
open Go.RowKit

theorem glue_end (c : UInt8) (ps : List ByteArray) (h : ps ≠ []) : ∃ rest, glue c ps = rest ++ [c] := by
  obtain ⟨r, p, rfl⟩ : ∃ r p, ps = r ++ [p] := ⟨ps.dropLast, ps.getLast h, (List.dropLast_concat_getLast h).symm⟩
  exact ⟨glue c r ++ p.data.toList, by unfold glue; rw [List.flatMap_append]; simp⟩
theorem split_free (c : UInt8) : ∀ (ps : List ByteArray), ps ≠ [] → (∀ p ∈ ps, ∀ x ∈ p.data.toList, x ≠ c) → ∀ s : ByteArray, s.data.toList ++ [c] = glue c ps → pcs c s = ps
  | [], h, _, _, _ => absurd rfl h
  | [p], _, hf, s, hs => by
    have e : s.data.toList = p.data.toList := by
      have : glue c [p] = p.data.toList ++ [c] := by unfold glue; simp
      rw [this] at hs
      exact List.append_cancel_right hs
    have es : s = p := by apply ByteArray.ext; apply Array.ext'; exact e
    subst es
    have hm : Lib.indexB s (oneB c) = -1 := by
      rcases Lib.indexB_cases s (oneB c) with hix | ⟨i, hix, _⟩
      · exact hix
      · exfalso
        rw [indexB_oneS] at hix
        have hi := (Lib.indexByte_some hix).1
        exact hf s (by simp) c (List.mem_of_getElem? hi) rfl
    unfold pcs
    exact splitB_missS s c hm _
  | p :: q :: r, _, hf, s, hs => by
    obtain ⟨rest, hr⟩ := glue_end c (q :: r) (by simp)
    have hsl : s.data.toList = p.data.toList ++ c :: rest := by
      have : glue c (p :: q :: r) = (p.data.toList ++ c :: rest) ++ [c] := by
        unfold glue at hr ⊢
        rw [List.flatMap_cons, hr]; simp
      rw [this] at hs
      exact List.append_cancel_right hs
    have hpl : p.data.toList.length = p.size := (Lib.size_eq p).symm
    have hat : s.data.toList[p.size]? = some c := by
      rw [hsl, List.getElem?_append_right (by omega), hpl, Nat.sub_self]; rfl
    have hix : Lib.indexB s (oneB c) = (p.size : Int) := by
      rcases Lib.indexB_cases s (oneB c) with h1 | ⟨i, h1, _⟩
      · rw [indexB_oneS] at h1
        exact absurd hat (Lib.indexByte_none h1 _)
      · rw [h1]
        rw [indexB_oneS] at h1
        obtain ⟨h2, h3⟩ := Lib.indexByte_some h1
        have hle : ¬ p.size < i := fun h => h3 p.size h hat
        have hge : ¬ i < p.size := fun h => by
          rw [hsl, List.getElem?_append_left (by omega)] at h2
          exact hf p (by simp) c (List.mem_of_getElem? h2) rfl
        have : i = p.size := by omega
        rw [this]
    have ssz : s.size = p.size + 1 + rest.length := by rw [Lib.size_eq, hsl, List.length_append, List.length_cons, hpl]; omega
    have e1 : s.extract 0 (p.size + 0) = p := by
      apply ByteArray.ext; apply Array.ext'
      rw [ByteArray.data_extract, Array.toList_extract, List.extract_eq_take_drop, hsl, List.drop_zero, show p.size + 0 - 0 = p.data.toList.length by omega, List.take_left]
    have e2 : (s.extract (p.size + 1) s.size).data.toList = rest := by
      rw [ByteArray.data_extract, Array.toList_extract, List.extract_eq_take_drop, hsl, List.drop_append]
      rw [List.drop_eq_nil_of_le (by omega), hpl, show p.size + 1 - p.size = 1 by omega]
      show ([] ++ rest).take _ = rest
      rw [List.nil_append, List.take_of_length_le (by omega)]
    have ih := split_free c (q :: r) (by simp) (fun x hx => hf x (List.mem_cons_of_mem _ hx)) (s.extract (p.size + 1) s.size) (by rw [e2, hr])
    unfold pcs at ih ⊢
    rw [Lib.countB_hit s (oneB c) p.size (Nat.le_refl _) hix, oneB_size, Nat.add_comm 1, Lib.splitB_hit (oneB c) 0 _ s p.size hix, oneB_size, e1, ih]
/-- a word's text; a line's -/
def wordB (x : ByteArray) : ByteArray := ⟨(wordL x.data.toList).toArray⟩
def rowBk (l : List ByteArray) : ByteArray := ⟨(body l).dropLast.toArray⟩
theorem body_glue (l : List ByteArray) : body l = glue 32 (l.map wordB) := by
  unfold body glue
  rw [List.flatMap_map]; rfl
theorem row_glue {l : List ByteArray} (h : l ≠ []) : (rowBk l).data.toList ++ [32] = body l := by
  obtain ⟨rest, hr⟩ := glue_end 32 (l.map wordB) (by simpa using h)
  show (body l).dropLast ++ [32] = body l
  rw [body_glue, hr, List.dropLast_concat]
theorem wordB_free (x : ByteArray) : ∀ y ∈ (wordB x).data.toList, y ≠ 32 ∧ y ≠ 10 := by
  intro y hy
  have := wordL_range x.data.toList y hy
  exact ⟨fun e => by rw [e] at this; exact absurd this.1 (by decide), fun e => by rw [e] at this; exact absurd this.1 (by decide)⟩
theorem unwsL_words : ∀ l : List ByteArray, unwsL (l.map wordB) = some l
  | [] => rfl
  | x :: r => by
    have h : unwS (wordB x) = some x := by
      unfold unwS wordB
      show (unword (wordL x.data.toList)).map _ = _
      rw [unword_wordL]; simp
    rw [List.map_cons, unwsL_some h, unwsL_words r]; rfl
theorem row_read {l : List ByteArray} (h : l ≠ []) : unwsL (pcs 32 (rowBk l)) = some l := by
  rw [split_free 32 (l.map wordB) (by simpa using h) (fun p hp => ?_) (rowBk l) (by rw [row_glue h, body_glue]), unwsL_words]
  obtain ⟨x, _, rfl⟩ := List.mem_map.1 hp
  exact fun y hy => (wordB_free x y hy).1
theorem row_free (l : List ByteArray) : ∀ y ∈ (rowBk l).data.toList, y ≠ 10 := by
  intro y hy
  have hy2 : y ∈ body l := List.dropLast_subset _ hy
  unfold body at hy2
  obtain ⟨x, _, hx⟩ := List.mem_flatMap.1 hy2
  rcases List.mem_append.1 hx with h | h
  · exact (wordB_free x y h).2
  · rw [List.mem_singleton.1 h]; decide
theorem encL_glue (ls : List (List ByteArray)) : encL ls = glue 10 (ls.map rowBk) := by
  unfold encL glue
  rw [List.flatMap_map]; rfl
theorem unlL_rows : ∀ ls : List (List ByteArray), (∀ l ∈ ls, l ≠ []) → unlL (ls.map rowBk) = some ls
  | [], _ => rfl
  | l :: r, h => by
    rw [List.map_cons, unlL_some (row_read (h l (by simp))), unlL_rows r (fun x hx => h x (List.mem_cons_of_mem _ hx))]; rfl
theorem firstBad_ne : ∀ ls : List (List ByteArray), firstBad ls = 0 → ∀ l ∈ ls, l ≠ []
  | [], _, l, hl => by cases hl
  | x :: r, h, l, hl => by
    unfold firstBad at h
    by_cases hx : chkLine x = 0
    · rw [if_pos hx] at h
      rcases List.mem_cons.1 hl with e | e
      · subst e; rintro rfl; unfold chkLine at hx; simp at hx
      · exact firstBad_ne r h l e
    · rw [if_neg hx] at h; exact absurd h hx
theorem chk_ne {ls : List (List ByteArray)} (h : chk ls = 0) : ∀ l ∈ ls, l ≠ [] := by
  unfold chk at h
  split at h
  · cases h
  · exact firstBad_ne ls h
/-- what is encoded is read -/
theorem rdoc_enc_back {ls : List (List ByteArray)} (h : chk ls = 0) : rdoc ⟨(encL ls).toArray⟩ = some ls := by
  by_cases h0 : ls = []
  · subst h0; rfl
  · obtain ⟨rest, hr⟩ := glue_end 10 (ls.map rowBk) (by simpa using h0)
    have he := encL_glue ls
    have hd : (⟨(encL ls).toArray⟩ : ByteArray).data.toList = rest ++ [10] := by show encL ls = _; rw [he, hr]
    unfold rdoc
    rw [if_neg (by rw [hd]; simp), if_pos (by unfold endN; rw [hd]; simp)]
    have e : ((⟨(encL ls).toArray⟩ : ByteArray).extract 0 ((⟨(encL ls).toArray⟩ : ByteArray).size - 1)).data.toList = rest := by
      rw [ByteArray.data_extract, Array.toList_extract, List.extract_eq_take_drop, List.drop_zero, Nat.sub_zero, Lib.size_eq, hd]
      simp
    rw [split_free 10 (ls.map rowBk) (by simpa using h0) (fun p hp => ?_) _ (by rw [e, hr]), unlL_rows ls (chk_ne h)]
    obtain ⟨x, _, rfl⟩ := List.mem_map.1 hp
    exact row_free x
end Go.Proofs.YtdjknefbaclleaaGreatDoor
