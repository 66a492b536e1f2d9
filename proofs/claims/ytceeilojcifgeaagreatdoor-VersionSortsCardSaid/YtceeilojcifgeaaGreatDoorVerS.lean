/-
  Semantic versions: keys are ordered as the versions are. Plain mathematics.
-/
import Derived.Test.YtceeilojcifgeaaGreatDoorVerM
namespace Go.Proofs.YtceeilojcifgeaaGreatDoor

def digs (s : BL) : Bool := s.all isD && !s.isEmpty
theorem digs_iff (s : BL) : digs s = true ↔ (∀ c ∈ s, isD c = true) ∧ s ≠ [] := by
  unfold digs; rw [Bool.and_eq_true, List.all_eq_true]; cases s <;> simp
/-- an identifier in a key -/
def enc6 (w : BL) : BL := if digs w = true then 0 :: num w else 1 :: w
/-- how two identifiers are ordered -/
def idc (a b : BL) : Int := if digs a = true then (if digs b = true then nord a b else -1) else if digs b = true then 1 else lx a b
def idsc : List BL → List BL → Int
  | [], [] => 0
  | [], _ :: _ => -1
  | _ :: _, [] => 1
  | a :: p, b :: q => fst0 (idc a b) (idsc p q)
/-- an identifier -/
def IdW (w : BL) : Prop := w ≠ [] ∧ (∀ c ∈ w, isI c = true) ∧ w.length ≤ 255
theorem isI_ge {c : UInt8} (h : isI c = true) : 45 ≤ c.toNat := by
  rw [isI_iff, isL_iff, isD_iff] at h; omega
/-- nothing, or a byte less than 2 at its beginning -/
def Low (x : BL) : Prop := ∀ c r, x = c :: r → c.toNat < 2
theorem low_ids (p : List BL) : Low (p.flatMap enc6) := by
  intro c r h
  cases p with
  | nil => cases h
  | cons a p =>
    rw [List.flatMap_cons] at h
    unfold enc6 at h
    split at h
    · rw [List.cons_append] at h; injection h with h; subst h; decide
    · rw [List.cons_append] at h; injection h with h; subst h; decide
theorem lx_words : ∀ (a b x y : BL), (∀ c ∈ a, isI c = true) → (∀ c ∈ b, isI c = true) → Low x → Low y → lx (a ++ x) (b ++ y) = fst0 (lx a b) (lx x y)
  | [], [], _, _, _, _, _, _ => rfl
  | [], c :: b, x, y, _, hb, hx, _ => by
    have := isI_ge (hb c (by simp))
    rw [List.nil_append, List.cons_append]
    cases x with
    | nil => rfl
    | cons d x =>
      have := hx d x rfl
      rw [lx_cons_lt (by rw [UInt8.lt_iff_toNat_lt]; omega)]; rfl
  | c :: a, [], x, y, ha, _, _, hy => by
    have := isI_ge (ha c (by simp))
    rw [List.nil_append, List.cons_append]
    cases y with
    | nil => rfl
    | cons d y =>
      have := hy d y rfl
      rw [lx_cons_gt (by rw [UInt8.lt_iff_toNat_lt]; omega)]; rfl
  | c :: a, d :: b, x, y, ha, hb, hx, hy => by
    rw [List.cons_append, List.cons_append]
    rcases u8_tri c d with h | rfl | h
    · rw [lx_cons_lt h, lx_cons_lt h]; rfl
    · rw [lx_cons, lx_cons]; exact lx_words a b x y (fun e h => ha e (by simp [h])) (fun e h => hb e (by simp [h])) hx hy
    · rw [lx_cons_gt h, lx_cons_gt h]; rfl
theorem enc_app (a b x y : BL) (ha : IdW a) (hb : IdW b) (hx : Low x) (hy : Low y) : lx (enc6 a ++ x) (enc6 b ++ y) = fst0 (idc a b) (lx x y) := by
  unfold enc6 idc
  by_cases h1 : digs a = true
  · by_cases h2 : digs b = true
    · rw [if_pos h1, if_pos h2, if_pos h1, if_pos h2, List.cons_append, List.cons_append, lx_cons, num_app _ _ _ _ ha.2.2 hb.2.2]
    · rw [if_pos h1, if_neg h2, if_pos h1, if_neg h2, List.cons_append, List.cons_append, lx_cons_lt (by decide)]; rfl
  · by_cases h2 : digs b = true
    · rw [if_neg h1, if_pos h2, if_neg h1, if_pos h2, List.cons_append, List.cons_append, lx_cons_gt (by decide)]; rfl
    · rw [if_neg h1, if_neg h2, if_neg h1, if_neg h2, List.cons_append, List.cons_append, lx_cons, lx_words _ _ _ _ ha.2.1 hb.2.1 hx hy]
theorem enc_ne (w : BL) : enc6 w ≠ [] := by unfold enc6; split <;> simp
theorem lx_ids : ∀ (p q : List BL), (∀ a ∈ p, IdW a) → (∀ a ∈ q, IdW a) → lx (p.flatMap enc6) (q.flatMap enc6) = idsc p q
  | [], [], _, _ => rfl
  | [], b :: q, _, _ => by
    rw [List.flatMap_nil, List.flatMap_cons]
    cases h : enc6 b ++ q.flatMap enc6 with
    | nil => exact absurd (List.append_eq_nil_iff.1 h).1 (enc_ne b)
    | cons _ _ => rfl
  | a :: p, [], _, _ => by
    rw [List.flatMap_nil, List.flatMap_cons]
    cases h : enc6 a ++ p.flatMap enc6 with
    | nil => exact absurd (List.append_eq_nil_iff.1 h).1 (enc_ne a)
    | cons _ _ => rfl
  | a :: p, b :: q, hp, hq => by
    rw [List.flatMap_cons, List.flatMap_cons, enc_app _ _ _ _ (hp a (by simp)) (hq b (by simp)) (low_ids p) (low_ids q), lx_ids p q (fun e h => hp e (by simp [h])) (fun e h => hq e (by simp [h]))]
    rfl
/-- a prerelease in a key; [2]: there is none -/
def prek (p : List BL) : BL := if p = [] then [2] else p.flatMap enc6
/-- how prereleases are ordered -/
def prec (p q : List BL) : Int := if p = [] then (if q = [] then 0 else 1) else if q = [] then -1 else idsc p q
theorem lx_pre (p q : List BL) (hp : ∀ a ∈ p, IdW a) (hq : ∀ a ∈ q, IdW a) : lx (prek p) (prek q) = prec p q := by
  unfold prek prec
  have aux : ∀ l : List BL, l ≠ [] → ∃ c r, l.flatMap enc6 = c :: r ∧ c.toNat < 2 := by
    intro l hl
    cases l with
    | nil => exact absurd rfl hl
    | cons a l =>
      cases h : (a :: l).flatMap enc6 with
      | nil => rw [List.flatMap_cons] at h; exact absurd (List.append_eq_nil_iff.1 h).1 (enc_ne a)
      | cons c r => exact ⟨c, r, rfl, low_ids _ c r h⟩
  by_cases h1 : p = []
  · by_cases h2 : q = []
    · rw [if_pos h1, if_pos h2, if_pos h1, if_pos h2]; rfl
    · rw [if_pos h1, if_neg h2, if_pos h1, if_neg h2]
      obtain ⟨c, r, e, hc⟩ := aux q h2
      rw [e, lx_cons_gt (by rw [UInt8.lt_iff_toNat_lt]; exact hc)]
  · by_cases h2 : q = []
    · rw [if_neg h1, if_pos h2, if_neg h1, if_pos h2]
      obtain ⟨c, r, e, hc⟩ := aux p h1
      rw [e, lx_cons_lt (by rw [UInt8.lt_iff_toNat_lt]; exact hc)]
    · rw [if_neg h1, if_neg h2, if_neg h1, if_neg h2, lx_ids p q hp hq]
/-- a version's key: its three numbers and the identifiers of its prerelease -/
def semk (a b c : BL) (p : List BL) : BL := num a ++ (num b ++ (num c ++ prek p))
def semc (a b c : BL) (p : List BL) (a' b' c' : BL) (p' : List BL) : Int := fst0 (nord a a') (fst0 (nord b b') (fst0 (nord c c') (prec p p')))
theorem lx_sem (a b c : BL) (p : List BL) (a' b' c' : BL) (p' : List BL) (h : a.length ≤ 255 ∧ b.length ≤ 255 ∧ c.length ≤ 255) (h' : a'.length ≤ 255 ∧ b'.length ≤ 255 ∧ c'.length ≤ 255) (hp : ∀ a ∈ p, IdW a) (hq : ∀ a ∈ p', IdW a) :
    lx (semk a b c p) (semk a' b' c' p') = semc a b c p a' b' c' p' := by
  unfold semk semc
  rw [num_app _ _ _ _ h.1 h'.1, num_app _ _ _ _ h.2.1 h'.2.1, num_app _ _ _ _ h.2.2 h'.2.2, lx_pre p p' hp hq]
end Go.Proofs.YtceeilojcifgeaaGreatDoor
