/-
  Plain mathematics, without conditions: which word an encoded form stands for, and that it is the word that was encoded (no program is named here but for its name space).
-/
import Derived.Test.YtmafefdchglpbaaDoorDocW
namespace Go.Proofs.YtmafefdchglpbaaDoor
open Go.RowKit

/-- the upper-case hexadecimal digits; the value of a digit, 16 if it is none -/
def hexD : List UInt8 := [48, 49, 50, 51, 52, 53, 54, 55, 56, 57, 65, 66, 67, 68, 69, 70]
def hexV (c : UInt8) : Nat := if 48 ≤ c.toNat ∧ c.toNat ≤ 57 then c.toNat - 48 else if 65 ≤ c.toNat ∧ c.toNat ≤ 70 then c.toNat - 55 else 16
theorem hexV_le (c : UInt8) : hexV c ≤ 16 := by unfold hexV; split <;> (try split) <;> omega
theorem index_hexF : ∀ c : Fin 256, Lib.indexByte hexD (UInt8.ofNat c.val) = if hexV (UInt8.ofNat c.val) = 16 then -1 else (hexV (UInt8.ofNat c.val) : Int) := by decide +kernel
theorem index_hex (c : UInt8) : Lib.indexByte hexD c = if hexV c = 16 then -1 else (hexV c : Int) := by
  have h := index_hexF ⟨c.toNat, UInt8.toNat_lt _⟩
  simpa using h
/-- the byte that two digits stand for; none if they are no digits or the byte stands for itself -/
def escV (a b : UInt8) : Option UInt8 :=
  if hexV a = 16 ∨ hexV b = 16 then none else if plnB ((16 * hexV a + hexV b : Nat) : Int) then none else some (UInt8.ofNat (16 * hexV a + hexV b))
/-- the byte that the beginning of a list stands for -/
def escD : List UInt8 → Option UInt8
  | a :: b :: _ => escV a b
  | _ => none
/-- the bytes that an encoded form stands for -/
def unwL : List UInt8 → Option (List UInt8)
  | [] => some []
  | [c] => if plnB c.toNat then some [c] else none
  | [c, d] => if plnB c.toNat then (unwL [d]).map (c :: ·) else none
  | c :: a :: b :: r =>
    if plnB c.toNat then (unwL (a :: b :: r)).map (c :: ·)
    else if c = 37 then (match escV a b with | some v => (unwL r).map (v :: ·) | none => none) else none
def unword (l : List UInt8) : Option (List UInt8) := if l = [] then none else if l = [126] then some [] else unwL l

theorem pln_37 : plnB 37 = false := by decide
theorem unwL_plain {c : UInt8} (h : plnB c.toNat = true) (t : List UInt8) : unwL (c :: t) = (unwL t).map (c :: ·) := by
  match t with
  | [] => simp [unwL, h]
  | [d] => simp [unwL, h]
  | a :: b :: r => simp [unwL, h]
theorem unwL_esc (t : List UInt8) : unwL (37 :: t) = match escD t with | some v => (unwL (t.drop 2)).map (v :: ·) | none => none := by
  match t with
  | [] => simp [unwL, escD, pln_37]
  | [d] => simp [unwL, escD, pln_37]
  | a :: b :: r => simp [unwL, escD, pln_37]
theorem unwL_other {c : UInt8} (h : plnB c.toNat = false) (h2 : c ≠ 37) (t : List UInt8) : unwL (c :: t) = none := by
  match t with
  | [] => simp [unwL, h]
  | [d] => simp [unwL, h]
  | a :: b :: r => simp [unwL, h, h2]
theorem esc_hexF : ∀ c : Fin 256, plnB (c.val : Int) = false → escV (hexU (c.val / 16)) (hexU (c.val % 16)) = some (UInt8.ofNat c.val) := by decide +kernel
theorem esc_hex (c : UInt8) (h : plnB c.toNat = false) : escV (hexU (c.toNat / 16)) (hexU (c.toNat % 16)) = some c := by
  have := esc_hexF ⟨c.toNat, UInt8.toNat_lt _⟩ h
  simpa using this
theorem unwL_encB (c : UInt8) (t : List UInt8) : unwL (encB c ++ t) = (unwL t).map (c :: ·) := by
  cases h : plnB c.toNat
  · rw [encB_esc h, List.cons_append, unwL_esc]
    simp only [List.cons_append, List.nil_append, escD, esc_hex c h, List.drop_succ_cons, List.drop_zero]
  · rw [encB_plain h, List.singleton_append, unwL_plain h]
theorem unwL_flat (l : List UInt8) : unwL (l.flatMap encB) = some l := by
  induction l with
  | nil => rfl
  | cons a t ih => rw [List.flatMap_cons, unwL_encB, ih]; rfl
theorem unwL_126 : unwL [126] = none := by decide
theorem unword_wordL (l : List UInt8) : unword (wordL l) = some l := by
  unfold wordL
  by_cases h : l = []
  · subst h; rfl
  · rw [if_neg h]
    unfold unword
    have hf := unwL_flat l
    by_cases h1 : l.flatMap encB = []
    · rw [h1] at hf; exact absurd (Option.some.inj hf).symm h
    · rw [if_neg h1]
      by_cases h2 : l.flatMap encB = [126]
      · rw [h2, unwL_126] at hf; cases hf
      · rw [if_neg h2, hf]
/-- every byte of an encoded form is visible -/
theorem hexU_range (n : Nat) (h : n < 16) : 33 ≤ (hexU n).toNat ∧ (hexU n).toNat ≤ 126 := by
  rcases (by omega : n = 0 ∨ n = 1 ∨ n = 2 ∨ n = 3 ∨ n = 4 ∨ n = 5 ∨ n = 6 ∨ n = 7 ∨ n = 8 ∨ n = 9 ∨ n = 10 ∨ n = 11 ∨ n = 12 ∨ n = 13 ∨ n = 14 ∨ n = 15) with rfl | rfl | rfl | rfl | rfl | rfl | rfl | rfl | rfl | rfl | rfl | rfl | rfl | rfl | rfl | rfl <;> decide
theorem pln_range {c : UInt8} (h : plnB c.toNat = true) : 33 ≤ c.toNat ∧ c.toNat ≤ 125 := by
  unfold plnB at h
  simp only [Bool.and_eq_true, decide_eq_true_eq] at h
  omega
theorem encB_range (c : UInt8) : ∀ x ∈ encB c, 33 ≤ x.toNat ∧ x.toNat ≤ 126 := by
  intro x hx
  have hc : c.toNat < 256 := UInt8.toNat_lt _
  cases h : plnB c.toNat
  · rw [encB_esc h] at hx
    rcases List.mem_cons.1 hx with rfl | hx
    · decide
    · rcases List.mem_cons.1 hx with rfl | hx
      · exact hexU_range _ (by omega)
      · obtain rfl := List.mem_singleton.1 hx
        exact hexU_range _ (by omega)
  · rw [encB_plain h] at hx
    obtain rfl := List.mem_singleton.1 hx
    have := pln_range h; omega
theorem wordL_range (l : List UInt8) : ∀ x ∈ wordL l, 33 ≤ x.toNat ∧ x.toNat ≤ 126 := by
  intro x hx
  unfold wordL at hx
  split at hx
  · obtain rfl := List.mem_singleton.1 hx; decide
  · obtain ⟨c, _, hc⟩ := List.mem_flatMap.1 hx
    exact encB_range c x hc
theorem wordL_ne (l : List UInt8) : wordL l ≠ [] := by
  intro h
  have := unword_wordL l
  rw [h] at this
  cases this
end Go.Proofs.YtmafefdchglpbaaDoor
