/-
  Dotted versions: keys are ordered as the versions are. Plain mathematics.
-/
import Derived.Test.YtceeilojcifgeaaGreatDoorVerM
namespace Go.Proofs.YtceeilojcifgeaaGreatDoor

/-- without the zero bytes at its end -/
def dz (k : BL) : BL := (k.reverse.dropWhile (· == 0)).reverse
/-- how two lists of numbers are ordered; a missing one counts as 0 -/
def dotc : List BL → List BL → Int
  | [], [] => 0
  | [], b :: q => fst0 (nord [48] b) (dotc [] q)
  | a :: p, [] => fst0 (nord a [48]) (dotc p [])
  | a :: p, b :: q => fst0 (nord a b) (dotc p q)
theorem dz_snoc_zero (k : BL) : dz (k ++ [0]) = dz k := by
  unfold dz; rw [List.reverse_append, List.reverse_singleton, List.singleton_append, List.dropWhile_cons]; simp
theorem dz_snoc (k : BL) (c : UInt8) (h : c ≠ 0) : dz (k ++ [c]) = k ++ [c] := by
  unfold dz; rw [List.reverse_append, List.reverse_singleton, List.singleton_append, List.dropWhile_cons]; simp [h]
theorem dz_nil : dz [] = [] := rfl
theorem dz_app : ∀ (n : Nat) (p k : BL), k.length = n → dz (p ++ k) = if dz k = [] then dz p else p ++ dz k := by
  intro n
  induction n with
  | zero => intro p k h; rw [List.eq_nil_of_length_eq_zero h, dz_nil, if_pos rfl, List.append_nil]
  | succ n ih =>
    intro p k h
    obtain ⟨k', c, rfl⟩ : ∃ k' c, k = k' ++ [c] := ⟨k.dropLast, k.getLast (by intro e; rw [e] at h; cases h), (List.dropLast_concat_getLast _).symm⟩
    rw [← List.append_assoc]
    by_cases hc : c = 0
    · subst hc; rw [dz_snoc_zero, dz_snoc_zero]; exact ih p k' (by simpa using h)
    · rw [dz_snoc _ _ hc, dz_snoc _ _ hc, if_neg (by simp), List.append_assoc]
theorem zs_digit {d : BL} (h : ∀ c ∈ d, 48 ≤ c.toNat) : ∀ c ∈ zs d, 48 ≤ c.toNat := fun c hc => h c (List.IsSuffix.mem hc (List.dropWhile_suffix _))
theorem dz_num (d : BL) (h : ∀ c ∈ d, 48 ≤ c.toNat) : dz (num d) = if zs d = [] then [] else num d := by
  have hz := zs_digit h
  unfold num
  by_cases e : zs d = []
  · rw [if_pos e, e]; rfl
  · rw [if_neg e]
    obtain ⟨k, c, hk⟩ : ∃ k c, zs d = k ++ [c] := ⟨_, _, (List.dropLast_concat_getLast e).symm⟩
    have hc := hz c (by rw [hk]; simp)
    rw [hk, ← List.cons_append, dz_snoc _ _ (by rintro rfl; simp at hc)]
/-- the key of a list of numbers -/
def dotk (l : List BL) : BL := dz (l.flatMap num)
def DigW (d : BL) : Prop := (∀ c ∈ d, 48 ≤ c.toNat) ∧ d.length ≤ 255
theorem dotk_cons (d : BL) (l : List BL) (h : DigW d) : dotk (d :: l) = if dotk l = [] then (if zs d = [] then [] else num d) else num d ++ dotk l := by
  unfold dotk; rw [List.flatMap_cons, dz_app _ _ _ rfl]
  split
  · exact dz_num d h.1
  · rfl
theorem num_ne (d : BL) : num d ≠ [] := by unfold num; simp
theorem nord_zero {a b : BL} (ha : zs a = []) : nord a b = if zs b = [] then 0 else -1 := by
  unfold nord; rw [ha]
  cases zs b with
  | nil => rfl
  | cons c r => rw [if_pos (by simp), if_neg (by simp)]
theorem nord_swap (a b : BL) : nord b a = - nord a b := by
  unfold nord
  by_cases h : (zs a).length < (zs b).length
  · rw [if_pos h, if_neg (by omega), if_pos h]; rfl
  · rw [if_neg h]
    by_cases h2 : (zs b).length < (zs a).length
    · rw [if_pos h2, if_neg h, if_pos h2]
    · rw [if_neg h2, if_neg h, if_neg h2]; exact lx_swap _ _
theorem lx_nil_ne {k : BL} (h : k ≠ []) : lx [] k = -1 := by
  cases k with
  | nil => exact absurd rfl h
  | cons _ _ => rfl
theorem lx_ne_nil {k : BL} (h : k ≠ []) : lx k [] = 1 := by
  cases k with
  | nil => exact absurd rfl h
  | cons _ _ => rfl
theorem lx_dots (a b : BL) (p q : List BL) (ha : DigW a) (hb : DigW b) : lx (dotk (a :: p)) (dotk (b :: q)) = fst0 (nord a b) (lx (dotk p) (dotk q)) := by
  have full : ∀ (d : BL) (l : List BL), DigW d → dotk (d :: l) ≠ [] → dotk (d :: l) = num d ++ dotk l := by
    intro d l hd hne
    rw [dotk_cons d l hd] at hne ⊢
    by_cases h1 : dotk l = []
    · rw [if_pos h1] at hne ⊢
      by_cases h2 : zs d = []
      · rw [if_pos h2] at hne; exact absurd rfl hne
      · rw [if_neg h2, h1, List.append_nil]
    · rw [if_neg h1]
  have nul : ∀ (d : BL) (l : List BL), DigW d → dotk (d :: l) = [] → zs d = [] ∧ dotk l = [] := by
    intro d l hd he
    rw [dotk_cons d l hd] at he
    by_cases h1 : dotk l = []
    · rw [if_pos h1] at he
      by_cases h2 : zs d = []
      · exact ⟨h2, h1⟩
      · rw [if_neg h2] at he; exact absurd he (num_ne d)
    · rw [if_neg h1] at he; exact absurd (List.append_eq_nil_iff.1 he).1 (num_ne d)
  by_cases e1 : dotk (a :: p) = []
  · obtain ⟨za, zp⟩ := nul a p ha e1
    rw [e1, zp, nord_zero za]
    by_cases e2 : dotk (b :: q) = []
    · obtain ⟨zb, zq⟩ := nul b q hb e2
      rw [e2, zq, if_pos zb]; rfl
    · rw [lx_nil_ne e2]
      by_cases zb : zs b = []
      · rw [if_pos zb, fst0_zero, lx_nil_ne]
        intro zq; rw [dotk_cons b q hb, if_pos zq, if_pos zb] at e2; exact e2 rfl
      · rw [if_neg zb]; rfl
  · by_cases e2 : dotk (b :: q) = []
    · obtain ⟨zb, zq⟩ := nul b q hb e2
      rw [e2, zq, lx_ne_nil e1, nord_swap b a, nord_zero zb]
      by_cases za : zs a = []
      · rw [if_pos za]
        show 1 = lx (dotk p) []
        rw [lx_ne_nil]
        intro zp; rw [dotk_cons a p ha, if_pos zp, if_pos za] at e1; exact e1 rfl
      · rw [if_neg za]; rfl
    · rw [full a p ha e1, full b q hb e2, num_app _ _ _ _ ha.2 hb.2]
theorem dotk_one : dotk [[48]] = [] := by decide
theorem lx_dotc : ∀ (p q : List BL), (∀ d ∈ p, DigW d) → (∀ d ∈ q, DigW d) → lx (dotk p) (dotk q) = dotc p q
  | [], [], _, _ => by unfold dotc; rfl
  | [], b :: q, hp, hq => by
    have h := lx_dots [48] b [] q ⟨by decide, by decide⟩ (hq b (by simp))
    rw [dotk_one, lx_dotc [] q (fun d h => by cases h) (fun d h => hq d (by simp [h]))] at h
    unfold dotc; exact h
  | a :: p, [], hp, hq => by
    have h := lx_dots a [48] p [] (hp a (by simp)) ⟨by decide, by decide⟩
    rw [dotk_one, lx_dotc p [] (fun d h => hp d (by simp [h])) (fun d h => by cases h)] at h
    unfold dotc; exact h
  | a :: p, b :: q, hp, hq => by
    rw [lx_dots a b p q (hp a (by simp)) (hq b (by simp)), lx_dotc p q (fun d h => hp d (by simp [h])) (fun d h => hq d (by simp [h]))]
    conv => rhs; unfold dotc
end Go.Proofs.YtceeilojcifgeaaGreatDoor
