/-
  Plain mathematics, without conditions beyond those of each lemma: decimal numbers and their texts (no program is named here but for its name space).
-/
import GoSem.Claim
import Derived.Lib.ItoaMem
namespace Go.Proofs.YtdjknefbaclleaaGreatDoor
open Go

/-- a digit; what digits stand for; whether a text is a number's; the number -/
def isD (c : UInt8) : Bool := decide (48 ≤ c.toNat) && decide (c.toNat ≤ 57)
def valF (a : Nat) (l : List UInt8) : Nat := l.foldl (fun a c => 10 * a + (c.toNat - 48)) a
def valL (l : List UInt8) : Nat := valF 0 l
def lz (l : List UInt8) : Bool := decide (l.head? = some 48) && decide (1 < l.length)
def pnk (l : List UInt8) : Bool := !decide (l = []) && !lz l && l.all isD && decide (valL l ≤ 1099511627776)
def pnv (l : List UInt8) : Int := if pnk l = true then (valL l : Int) else 0
theorem valL_snoc (l : List UInt8) (c : UInt8) : valL (l ++ [c]) = 10 * valL l + (c.toNat - 48) := by unfold valL valF; rw [List.foldl_append]; rfl
theorem valF_ge (l : List UInt8) : ∀ a, a * 10 ^ l.length ≤ valF a l := by
  induction l with
  | nil => intro a; simp [valF]
  | cons c r ih =>
    intro a
    have h := ih (10 * a + (c.toNat - 48))
    show a * 10 ^ (r.length + 1) ≤ valF (10 * a + (c.toNat - 48)) r
    refine Nat.le_trans ?_ h
    rw [Nat.pow_succ, Nat.mul_comm (10 ^ r.length) 10, ← Nat.mul_assoc]
    exact Nat.mul_le_mul_right _ (by omega)
theorem valL_mono (l m : List UInt8) : valL l ≤ valL (l ++ m) := by
  unfold valL
  have : valF 0 (l ++ m) = valF (valF 0 l) m := by unfold valF; rw [List.foldl_append]
  rw [this]
  exact Nat.le_trans (Nat.le_mul_of_pos_right _ (Nat.pow_pos (by omega))) (valF_ge m _)
theorem valL_lt (l : List UInt8) (h : l.all isD = true) : valL l < 10 ^ l.length := by
  have key : ∀ (m : List UInt8), m.all isD = true → ∀ a, valF a m < (a + 1) * 10 ^ m.length := by
    intro m
    induction m with
    | nil => intro _ a; simp [valF]
    | cons c r ih =>
      intro hm a
      rw [List.all_cons, Bool.and_eq_true] at hm
      have hc := hm.1
      unfold isD at hc
      simp only [Bool.and_eq_true, decide_eq_true_eq] at hc
      have h := ih hm.2 (10 * a + (c.toNat - 48))
      refine Nat.lt_of_lt_of_le h ?_
      show _ ≤ (a + 1) * 10 ^ (r.length + 1)
      rw [Nat.pow_succ, Nat.mul_comm (10 ^ r.length) 10, ← Nat.mul_assoc]
      exact Nat.mul_le_mul_right _ (by omega)
  have h0 := key l h 0
  rw [Nat.zero_add, Nat.one_mul] at h0
  exact h0
/-- a text with no zero ahead is at least the power of ten -/
theorem valL_big {l : List UInt8} (h : l.all isD = true) (h0 : l ≠ []) (hz : l.head? ≠ some 48) : 10 ^ (l.length - 1) ≤ valL l := by
  cases l with
  | nil => exact absurd rfl h0
  | cons c r =>
    have hc : c ≠ 48 := fun e => hz (by rw [e]; rfl)
    have hd : isD c = true := by rw [List.all_cons, Bool.and_eq_true] at h; exact h.1
    unfold isD at hd
    simp only [Bool.and_eq_true, decide_eq_true_eq] at hd
    have hc2 : c.toNat ≠ 48 := fun e => hc (UInt8.toNat_inj.1 e)
    have h1 := valF_ge r (10 * 0 + (c.toNat - 48))
    show 10 ^ (r.length + 1 - 1) ≤ valF (10 * 0 + (c.toNat - 48)) r
    refine Nat.le_trans ?_ h1
    rw [Nat.add_sub_cancel]
    exact Nat.le_mul_of_pos_left _ (by omega)
/-- the decimal numeral: its digits, its value, its first digit -/
theorem dec_step (u : Nat) (h : ¬ u < 10) : Lib.decDigits u = Lib.decDigits (u / 10) ++ [UInt8.ofNat (48 + u % 10)] := by rw [Lib.decDigits, dif_neg h]
theorem ofNat_toNat8 (k : Nat) (h : k < 256) : (UInt8.ofNat k).toNat = k := by simp; omega
theorem isD_of (k : Nat) (h : k < 10) : isD (UInt8.ofNat (48 + k)) = true := by
  unfold isD; rw [ofNat_toNat8 _ (by omega), decide_eq_true (by omega), decide_eq_true (by omega)]; rfl
theorem dec_spec (u : Nat) : (Lib.decDigits u).all isD = true ∧ valL (Lib.decDigits u) = u ∧ Lib.decDigits u ≠ [] ∧ (u ≠ 0 → (Lib.decDigits u).head? ≠ some 48) := by
  induction u using Nat.strongRecOn with
  | _ u ih =>
    by_cases h : u < 10
    · rw [Lib.decDigits_one h]
      refine ⟨by rw [List.all_cons, isD_of u h]; rfl, ?_, by simp, fun hu => ?_⟩
      · show 10 * 0 + ((UInt8.ofNat (48 + u)).toNat - 48) = u
        rw [ofNat_toNat8 _ (by omega)]; omega
      · intro e
        have e2 : UInt8.ofNat (48 + u) = 48 := by simpa using e
        have := congrArg UInt8.toNat e2
        rw [ofNat_toNat8 _ (by omega)] at this
        have e48 : (48 : UInt8).toNat = 48 := rfl
        omega
    · obtain ⟨h1, h2, h3, h4⟩ := ih (u / 10) (by omega)
      rw [dec_step u h]
      refine ⟨by rw [List.all_append, h1, List.all_cons, isD_of _ (by omega)]; rfl, ?_, by simp, fun _ => ?_⟩
      · rw [valL_snoc, h2, ofNat_toNat8 _ (by omega)]; omega
      · have := h4 (by omega)
        cases hd : Lib.decDigits (u / 10) with
        | nil => exact absurd hd h3
        | cons c r => rw [hd] at this; simpa using this
/-- a text with no zero ahead is the numeral of its value -/
theorem dec_val (n : Nat) : ∀ l : List UInt8, l.length = n → l.all isD = true → l ≠ [] → lz l = false → Lib.decDigits (valL l) = l := by
  induction n with
  | zero => intro l hl _ h0; exact absurd (List.eq_nil_of_length_eq_zero hl) h0
  | succ n ih =>
    intro l hl hd h0 hz
    obtain ⟨r, c, rfl⟩ : ∃ r c, l = r ++ [c] := ⟨l.dropLast, l.getLast h0, (List.dropLast_concat_getLast h0).symm⟩
    rw [List.all_append, Bool.and_eq_true] at hd
    have hc := hd.2
    rw [List.all_cons, List.all_nil, Bool.and_true] at hc
    unfold isD at hc
    simp only [Bool.and_eq_true, decide_eq_true_eq] at hc
    have ec : UInt8.ofNat (48 + (c.toNat - 48)) = c := by
      rw [show 48 + (c.toNat - 48) = c.toNat by omega]; simp
    by_cases hr : r = []
    · subst hr
      have e : valL ([] ++ [c]) = c.toNat - 48 := by rw [valL_snoc]; show 10 * 0 + _ = _; omega
      rw [e, Lib.decDigits_one (by omega), ec]; rfl
    · have hrl : r.length = n := by rw [List.length_append, List.length_singleton] at hl; omega
      have hn : 0 < r.length := by cases r with
        | nil => exact absurd rfl hr
        | cons _ _ => simp
      have hh : (r ++ [c]).head? = r.head? := by cases r with
        | nil => exact absurd rfl hr
        | cons _ _ => rfl
      have hz2 : r.head? ≠ some 48 := by
        intro e
        unfold lz at hz
        rw [hh, e, decide_eq_true rfl, decide_eq_true (by rw [List.length_append, List.length_singleton]; omega)] at hz
        cases hz
      have hzr : lz r = false := by unfold lz; rw [decide_eq_false hz2]; rfl
      have hv := ih r hrl hd.1 hr hzr
      have hb := valL_big hd.1 hr hz2
      have hp : 1 ≤ 10 ^ (r.length - 1) := Nat.pow_pos (by omega)
      rw [valL_snoc, dec_step _ (by omega), show (10 * valL r + (c.toNat - 48)) / 10 = valL r by omega, show (10 * valL r + (c.toNat - 48)) % 10 = c.toNat - 48 by omega, hv, ec]
theorem pnk_dec {l : List UInt8} (h : pnk l = true) : Lib.itoa (pnv l) = l ∧ l.all isD = true ∧ valL l ≤ 1099511627776 := by
  have h1 := h
  unfold pnk at h
  simp only [Bool.and_eq_true, Bool.not_eq_true', decide_eq_false_iff_not, decide_eq_true_eq] at h
  obtain ⟨⟨⟨h2, h3⟩, h4⟩, h5⟩ := h
  refine ⟨?_, h4, h5⟩
  unfold pnv
  rw [if_pos h1, Lib.itoa_nonneg, dec_val _ l rfl h4 h2 h3]
theorem pnk_itoa (n : Int) : pnk (Lib.itoa n) = (decide (0 ≤ n) && decide (n ≤ 1099511627776)) ∧ (0 ≤ n → n ≤ 1099511627776 → pnv (Lib.itoa n) = n) := by
  by_cases h0 : 0 ≤ n
  · obtain ⟨u, rfl⟩ : ∃ u : Nat, n = u := ⟨n.toNat, by omega⟩
    rw [Lib.itoa_nonneg]
    obtain ⟨h1, h2, h3, h4⟩ := dec_spec u
    have hz : lz (Lib.decDigits u) = false := by
      by_cases hu : u = 0
      · subst hu; rw [Lib.decDigits_one (by omega)]; rfl
      · unfold lz; rw [decide_eq_false (h4 hu)]; rfl
    have hk : pnk (Lib.decDigits u) = decide ((u : Int) ≤ 1099511627776) := by
      unfold pnk
      rw [decide_eq_false h3, hz, h1, h2]
      simp only [Bool.not_false, Bool.true_and]
      rw [decide_eq_decide]; omega
    refine ⟨by rw [hk, decide_eq_true h0, Bool.true_and], fun _ hm => ?_⟩
    unfold pnv
    rw [hk, if_pos (by simpa using hm), h2]
  · refine ⟨?_, fun h => absurd h h0⟩
    rw [decide_eq_false h0, Bool.false_and]
    have : Lib.itoa n = 45 :: Lib.decDigits n.natAbs := by unfold Lib.itoa; rw [if_pos (by omega)]
    unfold pnk
    rw [this, List.all_cons, show isD 45 = false from rfl]
    simp
end Go.Proofs.YtdjknefbaclleaaGreatDoor
