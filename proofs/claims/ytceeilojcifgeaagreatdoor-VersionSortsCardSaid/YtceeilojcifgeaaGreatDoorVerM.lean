/-
  Versions as lists of bytes: digits, numbers, and how numbers are ordered. Plain mathematics.
-/
import Derived.Lib.Bytealg
namespace Go.Proofs.YtceeilojcifgeaaGreatDoor

abbrev BL := List UInt8
/-- the order of bytes -/
def lx : BL → BL → Int
  | [], [] => 0
  | [], _ :: _ => -1
  | _ :: _, [] => 1
  | a :: as, b :: bs => if a < b then -1 else if b < a then 1 else lx as bs
theorem lx_eq : ∀ a b : BL, Lib.compareBytes a b = lx a b
  | [], [] => rfl
  | [], _ :: _ => rfl
  | _ :: _, [] => rfl
  | a :: as, b :: bs => by unfold Lib.compareBytes lx; rw [lx_eq as bs]
theorem lx_refl : ∀ a : BL, lx a a = 0
  | [] => rfl
  | a :: as => by unfold lx; rw [if_neg (UInt8.lt_irrefl a), if_neg (UInt8.lt_irrefl a), lx_refl as]
theorem lx_cons_lt {a b : UInt8} (h : a < b) (x y : BL) : lx (a :: x) (b :: y) = -1 := by unfold lx; rw [if_pos h]
theorem lx_cons_gt {a b : UInt8} (h : b < a) (x y : BL) : lx (a :: x) (b :: y) = 1 := by
  unfold lx; rw [if_neg (by rw [UInt8.lt_iff_toNat_lt] at *; omega), if_pos h]
theorem lx_cons (a : UInt8) (x y : BL) : lx (a :: x) (a :: y) = lx x y := by
  rw [lx]; rw [if_neg (UInt8.lt_irrefl a), if_neg (UInt8.lt_irrefl a)]
theorem u8_tri (a b : UInt8) : a < b ∨ a = b ∨ b < a := by
  rw [UInt8.lt_iff_toNat_lt, UInt8.lt_iff_toNat_lt]
  rcases Nat.lt_trichotomy a.toNat b.toNat with h | h | h
  · exact .inl h
  · exact .inr (.inl (UInt8.toNat_inj.1 h))
  · exact .inr (.inr h)
theorem lx_rng : ∀ a b : BL, lx a b = -1 ∨ lx a b = 0 ∨ lx a b = 1
  | [], [] => .inr (.inl rfl)
  | [], _ :: _ => .inl rfl
  | _ :: _, [] => .inr (.inr rfl)
  | a :: as, b :: bs => by
    rcases u8_tri a b with h | rfl | h
    · exact .inl (lx_cons_lt h _ _)
    · rw [lx_cons]; exact lx_rng as bs
    · exact .inr (.inr (lx_cons_gt h _ _))
theorem lx_swap : ∀ a b : BL, lx b a = - lx a b
  | [], [] => rfl
  | [], _ :: _ => rfl
  | _ :: _, [] => rfl
  | a :: as, b :: bs => by
    rcases u8_tri a b with h | rfl | h
    · rw [lx_cons_lt h, lx_cons_gt h]; rfl
    · rw [lx_cons, lx_cons]; exact lx_swap as bs
    · rw [lx_cons_lt h, lx_cons_gt h]
theorem lx_zero : ∀ a b : BL, lx a b = 0 → a = b
  | [], [], _ => rfl
  | [], _ :: _, h => by cases h
  | _ :: _, [], h => by cases h
  | a :: as, b :: bs, h => by
    rcases u8_tri a b with h1 | rfl | h1
    · rw [lx_cons_lt h1] at h; cases h
    · rw [lx_cons] at h; rw [lx_zero as bs h]
    · rw [lx_cons_gt h1] at h; cases h
theorem lx_zero_iff (a b : BL) : lx a b = 0 ↔ a = b := ⟨lx_zero a b, fun h => h ▸ lx_refl a⟩
theorem lx_trans : ∀ a b c : BL, lx a b ≤ 0 → lx b c ≤ 0 → lx a c ≤ 0
  | [], [], _, _, h => h
  | [], _ :: _, [], _, _ => by decide
  | [], _ :: _, _ :: _, _, _ => by show (-1 : Int) ≤ 0; decide
  | _ :: _, [], _, h, _ => absurd h (by show ¬ (1 : Int) ≤ 0; decide)
  | _ :: _, _ :: _, [], _, h => absurd h (by show ¬ (1 : Int) ≤ 0; decide)
  | a :: as, b :: bs, c :: cs, h1, h2 => by
    rcases u8_tri a b with h | rfl | h
    · rcases u8_tri b c with k | rfl | k
      · rw [lx_cons_lt (by rw [UInt8.lt_iff_toNat_lt] at *; omega)]; decide
      · rw [lx_cons_lt h]; decide
      · rw [lx_cons_gt k] at h2; exact absurd h2 (by decide)
    · rw [lx_cons] at h1
      rcases u8_tri a c with k | rfl | k
      · rw [lx_cons_lt k]; decide
      · rw [lx_cons] at h2 ⊢; exact lx_trans as bs cs h1 h2
      · rw [lx_cons_gt k] at h2; exact absurd h2 (by decide)
    · rw [lx_cons_gt h] at h1; exact absurd h1 (by decide)
/-- the first of two comparisons that is not zero -/
def fst0 (a b : Int) : Int := if a = 0 then b else a
theorem fst0_zero (b : Int) : fst0 0 b = b := rfl
theorem fst0_ne {a : Int} (h : a ≠ 0) (b : Int) : fst0 a b = a := if_neg h
theorem fst0_assoc (a b c : Int) : fst0 (fst0 a b) c = fst0 a (fst0 b c) := by
  unfold fst0; by_cases h : a = 0 <;> simp [h]
theorem lx_app : ∀ (p q x y : BL), p.length = q.length → lx (p ++ x) (q ++ y) = fst0 (lx p q) (lx x y)
  | [], [], _, _, _ => rfl
  | [], _ :: _, _, _, h => by cases h
  | _ :: _, [], _, _, h => by cases h
  | a :: p, b :: q, x, y, h => by
    rcases u8_tri a b with k | rfl | k
    · rw [List.cons_append, List.cons_append, lx_cons_lt k, lx_cons_lt k]; rfl
    · rw [List.cons_append, List.cons_append, lx_cons, lx_cons]; exact lx_app p q x y (by simpa using h)
    · rw [List.cons_append, List.cons_append, lx_cons_gt k, lx_cons_gt k]; rfl
theorem lx_app_same (p x y : BL) : lx (p ++ x) (p ++ y) = lx x y := by rw [lx_app p p x y rfl, lx_refl]; rfl

def isD (c : UInt8) : Bool := decide (48 ≤ c) && decide (c ≤ 57)
def isL (c : UInt8) : Bool := (decide (97 ≤ c) && decide (c ≤ 122)) || (decide (65 ≤ c) && decide (c ≤ 90))
def isI (c : UInt8) : Bool := isL c || isD c || c == 45
theorem isD_iff (c : UInt8) : isD c = true ↔ 48 ≤ c.toNat ∧ c.toNat ≤ 57 := by
  unfold isD; rw [Bool.and_eq_true, decide_eq_true_iff, decide_eq_true_iff, UInt8.le_iff_toNat_le, UInt8.le_iff_toNat_le]; exact Iff.rfl
theorem isL_iff (c : UInt8) : isL c = true ↔ (97 ≤ c.toNat ∧ c.toNat ≤ 122) ∨ (65 ≤ c.toNat ∧ c.toNat ≤ 90) := by
  unfold isL; simp only [Bool.or_eq_true, Bool.and_eq_true, decide_eq_true_iff, UInt8.le_iff_toNat_le]; exact Iff.rfl
theorem isI_iff (c : UInt8) : isI c = true ↔ isL c = true ∨ isD c = true ∨ c.toNat = 45 := by
  unfold isI; rw [Bool.or_eq_true, Bool.or_eq_true, beq_iff_eq, or_assoc, ← UInt8.toNat_inj]; exact Iff.rfl
/-- without the zeros before it -/
def zs (l : BL) : BL := l.dropWhile (· == 48)
theorem zs_len (l : BL) : (zs l).length ≤ l.length := by
  unfold zs
  have := congrArg List.length (List.takeWhile_append_dropWhile (p := (· == (48 : UInt8))) (l := l)); rw [List.length_append] at this; omega
/-- a number in a key -/
def num (l : BL) : BL := UInt8.ofNat (zs l).length :: zs l
/-- how two numbers are ordered -/
def nord (a b : BL) : Int := if (zs a).length < (zs b).length then -1 else if (zs b).length < (zs a).length then 1 else lx (zs a) (zs b)
theorem nord_rng (a b : BL) : nord a b = -1 ∨ nord a b = 0 ∨ nord a b = 1 := by
  unfold nord; split
  · exact .inl rfl
  · split
    · exact .inr (.inr rfl)
    · exact lx_rng _ _
theorem nord_refl (a : BL) : nord a a = 0 := by
  unfold nord; rw [if_neg (Nat.lt_irrefl _), if_neg (Nat.lt_irrefl _), lx_refl]
theorem num_app (a b x y : BL) (ha : a.length ≤ 255) (hb : b.length ≤ 255) : lx (num a ++ x) (num b ++ y) = fst0 (nord a b) (lx x y) := by
  have h1 := zs_len a; have h2 := zs_len b
  unfold num nord
  rw [List.cons_append, List.cons_append]
  have e1 : (UInt8.ofNat (zs a).length).toNat = (zs a).length := by rw [UInt8.toNat_ofNat']; omega
  have e2 : (UInt8.ofNat (zs b).length).toNat = (zs b).length := by rw [UInt8.toNat_ofNat']; omega
  by_cases k : (zs a).length < (zs b).length
  · rw [if_pos k, lx_cons_lt (by rw [UInt8.lt_iff_toNat_lt]; omega)]; rfl
  · rw [if_neg k]
    by_cases k2 : (zs b).length < (zs a).length
    · rw [if_pos k2, lx_cons_gt (by rw [UInt8.lt_iff_toNat_lt]; omega)]; rfl
    · rw [if_neg k2]
      have e : (zs a).length = (zs b).length := by omega
      rw [e, lx_cons, lx_app _ _ _ _ e]
theorem tw_len (p : UInt8 → Bool) (l : BL) : (l.takeWhile p).length + (l.dropWhile p).length = l.length := by
  rw [← List.length_append, List.takeWhile_append_dropWhile]
theorem tw_all (p : UInt8 → Bool) : ∀ l : BL, ∀ c ∈ l.takeWhile p, p c = true
  | [], c, h => by cases h
  | a :: l, c, h => by
    rw [List.takeWhile_cons] at h
    split at h
    · rcases List.mem_cons.1 h with rfl | h
      · assumption
      · exact tw_all p l c h
    · cases h
theorem dw_head (p : UInt8 → Bool) : ∀ (l : BL) (c : UInt8) (r : BL), l.dropWhile p = c :: r → p c = false
  | [], _, _, h => by cases h
  | a :: l, c, r, h => by
    rw [List.dropWhile_cons] at h
    split at h
    · exact dw_head p l c r h
    · injection h with h1 h2; subst h1; rename_i k; simpa using k
theorem tw_app (p : UInt8 → Bool) : ∀ (a b : BL), (∀ c ∈ a, p c = true) → (∀ c r, b = c :: r → p c = false) → (a ++ b).takeWhile p = a ∧ (a ++ b).dropWhile p = b
  | [], [], _, _ => ⟨rfl, rfl⟩
  | [], c :: r, _, h => by
    have := h c r rfl
    constructor
    · rw [List.nil_append, List.takeWhile_cons, this]; rfl
    · rw [List.nil_append, List.dropWhile_cons, this]; rfl
  | a :: as, b, h1, h2 => by
    obtain ⟨i1, i2⟩ := tw_app p as b (fun c h => h1 c (by simp [h])) h2
    have h := h1 a (by simp)
    constructor
    · rw [List.cons_append, List.takeWhile_cons, h]; simp [i1]
    · rw [List.cons_append, List.dropWhile_cons, h]; simp [i2]
end Go.Proofs.YtceeilojcifgeaaGreatDoor
