/-
  Plain mathematics: the rows of the reference's Match on their way are those of the pattern's parts (no program is named here but for its name space).
-/
import Derived.Test.YtmafefdchglpbaaDoorPatW
namespace Go.Proofs.YtmafefdchglpbaaDoor
open Go.RowKit

/-- a row of n + 1 bools -/
def rowF (n : Nat) (f : Nat → Bool) : List Bool := (List.range (n + 1)).map f
theorem rowF_length (n : Nat) (f : Nat → Bool) : (rowF n f).length = n + 1 := by simp [rowF]
theorem rowF_get (n : Nat) (f : Nat → Bool) (i : Nat) (h : i ≤ n) : (rowF n f).getD i false = f i := by
  unfold rowF
  rw [List.getD_eq_getElem?_getD, List.getElem?_map, List.getElem?_range (by omega)]; rfl
theorem rowF_congr {n : Nat} {f g : Nat → Bool} (h : ∀ i, i ≤ n → f i = g i) : rowF n f = rowF n g := by
  unfold rowF
  exact List.map_congr_left fun i hi => h i (by have := List.mem_range.1 hi; omega)
theorem rowF_set (n : Nat) (f : Nat → Bool) (k : Nat) (v : Bool) : (rowF n f).set k v = rowF n (fun i => if i = k then v else f i) := by
  unfold rowF
  apply List.ext_getElem
  · simp
  · intro i h1 h2
    rw [List.getElem_set]
    simp only [List.getElem_map, List.getElem_range]
    by_cases h : k = i
    · rw [if_pos h, if_pos h.symm]
    · rw [if_neg h, if_neg (fun e => h e.symm)]
/-- what a part takes of the byte; what the part before hands on; the row behind the first pass, on its way; behind the second -/
def tT (ps : List Pt) (old : List Bool) (c : Int) (i : Nat) : Bool := old.getD i false && tkP (ps.getD i (0, 0)) c
def loB (ps : List Pt) (old : List Bool) (c : Int) : Nat → Bool
  | 0 => false
  | j + 1 => !seqP (ps.getD j (0, 0)) && tT ps old c j
def t3B (ps : List Pt) (old : List Bool) (c : Int) (i : Nat) : Bool := (decide (i < ps.length) && seqP (ps.getD i (0, 0)) && tT ps old c i) || loB ps old c i
def w3B (ps : List Pt) (old : List Bool) (c : Int) (k i : Nat) : Bool := if i < k then t3B ps old c i else if i = k then loB ps old c i else false
def w4B (ps : List Pt) (old : List Bool) (c : Int) (k i : Nat) : Bool := if i ≤ k then nvc ps old c i else t3B ps old c i
theorem w3_zero (ps : List Pt) (old : List Bool) (c : Int) (n : Nat) : rowF n (w3B ps old c 0) = List.replicate (n + 1) false := by
  apply List.ext_getElem
  · simp [rowF]
  · intro i h1 h2
    simp only [rowF, List.getElem_map, List.getElem_range, List.getElem_replicate]
    unfold w3B
    rw [if_neg (by omega)]
    split
    · rename_i h; subst h; rfl
    · rfl
theorem w3_no {ps : List Pt} {old : List Bool} {c : Int} {k n : Nat} (h : tT ps old c k = false) : rowF n (w3B ps old c k) = rowF n (w3B ps old c (k + 1)) := by
  apply rowF_congr
  intro i _
  unfold w3B
  by_cases h1 : i < k
  · rw [if_pos h1, if_pos (by omega)]
  · rw [if_neg h1]
    by_cases h2 : i = k
    · subst h2
      rw [if_pos rfl, if_pos (by omega)]
      unfold t3B; rw [h]; simp
    · rw [if_neg h2, if_neg (by omega)]
      split
      · rename_i h3; subst h3
        show false = (_ && tT ps old c k); rw [h, Bool.and_false]
      · rfl
theorem w3_seq {ps : List Pt} {old : List Bool} {c : Int} {k n : Nat} (hk : k < ps.length) (h : tT ps old c k = true) (hs : seqP (ps.getD k (0, 0)) = true) : (rowF n (w3B ps old c k)).set k true = rowF n (w3B ps old c (k + 1)) := by
  rw [rowF_set]
  apply rowF_congr
  intro i _
  unfold w3B
  by_cases h2 : i = k
  · subst h2
    rw [if_pos rfl, if_pos (by omega)]
    unfold t3B; rw [h, hs, decide_eq_true hk]; rfl
  · rw [if_neg h2]
    by_cases h1 : i < k
    · rw [if_pos h1, if_pos (by omega)]
    · rw [if_neg h1, if_neg h2, if_neg (by omega)]
      split
      · rename_i h3; subst h3
        show false = (!seqP _ && _); rw [hs]; rfl
      · rfl
theorem w3_one {ps : List Pt} {old : List Bool} {c : Int} {k n : Nat} (h : tT ps old c k = true) (hs : seqP (ps.getD k (0, 0)) = false) : (rowF n (w3B ps old c k)).set (k + 1) true = rowF n (w3B ps old c (k + 1)) := by
  rw [rowF_set]
  apply rowF_congr
  intro i _
  unfold w3B
  by_cases h2 : i = k + 1
  · subst h2
    rw [if_pos rfl, if_neg (by omega), if_pos rfl]
    show true = (!seqP _ && tT ps old c k); rw [hs, h]; rfl
  · rw [if_neg h2]
    by_cases h1 : i < k
    · rw [if_pos h1, if_pos (by omega)]
    · rw [if_neg h1]
      by_cases h3 : i = k
      · subst h3
        rw [if_pos rfl, if_pos (by omega)]
        unfold t3B; rw [hs]; simp
      · rw [if_neg h3, if_neg (by omega), if_neg h2]
theorem arr_eq (ps : List Pt) (old : List Bool) (c : Int) (i : Nat) : arr ps old c (i + 1) = if seqP (ps.getD i (0, 0)) = true then arr ps old c i || tT ps old c i else tT ps old c i := rfl
theorem nvc_eq {ps : List Pt} {old : List Bool} {c : Int} {i : Nat} : nvc ps old c i = ((decide (i < ps.length) && seqP (ps.getD i (0, 0)) && tT ps old c i) || arr ps old c i) := by
  unfold nvc
  by_cases h : (decide (i < ps.length) && seqP (ps.getD i (0, 0))) = true
  · rw [if_pos h, h, Bool.true_and]
    rw [Bool.and_eq_true] at h
    rw [arr_eq, if_pos h.2, Bool.or_comm]
  · rw [if_neg h]
    have : (decide (i < ps.length) && seqP (ps.getD i (0, 0))) = false := by simpa using h
    rw [this]; simp
theorem w34 (ps : List Pt) (old : List Bool) (c : Int) : rowF ps.length (w3B ps old c ps.length) = rowF ps.length (w4B ps old c 0) := by
  apply rowF_congr
  intro i hi
  unfold w3B w4B
  by_cases h : i < ps.length
  · rw [if_pos h]
    by_cases h0 : i ≤ 0
    · obtain rfl : i = 0 := by omega
      rw [if_pos (Nat.le_refl _), nvc_eq]
      unfold t3B; rfl
    · rw [if_neg h0]
  · obtain rfl : i = ps.length := by omega
    rw [if_neg h, if_pos rfl]
    by_cases h0 : ps.length ≤ 0
    · have h1 : ps.length = 0 := by omega
      rw [if_pos h0, nvc_eq, decide_eq_false h]
      rw [h1]; rfl
    · rw [if_neg h0]; unfold t3B; rw [decide_eq_false h]; rfl
theorem w4_yes {ps : List Pt} {old : List Bool} {c : Int} {k n : Nat} (h : nvc ps old c k = true) (hk : k < ps.length) (hs : seqP (ps.getD k (0, 0)) = true) : (rowF n (w4B ps old c k)).set (k + 1) true = rowF n (w4B ps old c (k + 1)) := by
  rw [rowF_set]
  apply rowF_congr
  intro i _
  unfold w4B
  by_cases h2 : i = k + 1
  · subst h2
    rw [if_pos rfl, if_pos (Nat.le_refl _), nvc_eq, (nvc_seq hk hs).2, h, Bool.or_true]
  · rw [if_neg h2]
    by_cases h1 : i ≤ k
    · rw [if_pos h1, if_pos (by omega)]
    · rw [if_neg h1, if_neg (by omega)]
theorem w4_no {ps : List Pt} {old : List Bool} {c : Int} {k n : Nat} (hk : k < ps.length) (h : (nvc ps old c k && seqP (ps.getD k (0, 0))) = false) : rowF n (w4B ps old c k) = rowF n (w4B ps old c (k + 1)) := by
  apply rowF_congr
  intro i _
  unfold w4B
  by_cases h1 : i ≤ k
  · rw [if_pos h1, if_pos (by omega)]
  · rw [if_neg h1]
    by_cases h2 : i = k + 1
    · subst h2
      rw [if_pos (Nat.le_refl _), nvc_eq]
      unfold t3B
      congr 1
      show (!seqP (ps.getD k (0, 0)) && tT ps old c k) = _
      cases hs : seqP (ps.getD k (0, 0))
      · rw [(nvc_one hs).2]; rfl
      · rw [hs, Bool.and_true] at h
        rw [(nvc_seq hk hs).2, h]; rfl
    · rw [if_neg (by omega)]
theorem w4_end (ps : List Pt) (old : List Bool) (c : Int) : rowF ps.length (w4B ps old c ps.length) = advL ps old c := by
  unfold advL
  exact rowF_congr (g := nvc ps old c) fun i hi => by unfold w4B; rw [if_pos hi]
theorem w4_at (ps : List Pt) (old : List Bool) (c : Int) (k n : Nat) (hk : k ≤ n) : (rowF n (w4B ps old c k)).getD k false = nvc ps old c k := by
  rw [rowF_get _ _ _ hk]; unfold w4B; rw [if_pos (Nat.le_refl _)]
/-- the first row stops where a part stands for one byte -/
theorem ini_past {ps : List Pt} {k : Nat} (h : seqP (ps.getD k (0, 0)) = false) : ∀ i, k < i → ini ps i = false := by
  intro i hi
  unfold ini
  rw [List.all_eq_false]
  exact ⟨k, by simpa using hi, by rw [h]; simp⟩
theorem wayI_stop {ps : List Pt} {k : Nat} (hk : k < ps.length) (h : seqP (ps.getD k (0, 0)) = false) : wayI ps (k + 1) = iniL ps := by
  apply List.ext_getElem
  · rw [wayI_length _ _ (by omega), iniL_length]
  · intro i h1 h2
    rw [iniL_length] at h2
    have e1 : (wayI ps (k + 1))[i] = (wayI ps (k + 1)).getD i false := by rw [List.getD_eq_getElem?_getD, List.getElem?_eq_getElem h1]; rfl
    have e2 : (iniL ps)[i]'(by rw [iniL_length]; exact h2) = ini ps i := by simp [iniL]
    rw [e1, e2]
    by_cases hi : i < k + 1
    · rw [wayI_get _ _ _ hi]
    · rw [ini_past h i (by omega)]
      unfold wayI
      rw [List.getD_eq_getElem?_getD, List.getElem?_append_right (by simp; omega), List.length_map, List.length_range, List.getElem?_replicate]
      split <;> rfl
end Go.Proofs.YtmafefdchglpbaaDoor
