/-
  Plain mathematics, without conditions beyond those of each lemma: decimal numbers and their texts (no program is named here but for its name space).
-/
import GoSem.Claim
import Derived.Lib.ItoaMem
import Derived.Test.YtbfgkbcpkldofaaDoorDocA
import Derived.IntWalk
import Derived.Lib.AppendStr
import Derived.Lib.UnsafeStr
import Derived.Laws.IdiomStrings
import Derived.Deep.MidRow
namespace Go.Proofs.YtbfgkbcpkldofaaDoor
open Go

/-- a digit; what digits stand for; whether a text is a number's; the number -/
def isD (c : UInt8) : Bool := decide (48 ≤ c.toNat) && decide (c.toNat ≤ 57)
def valF (a : Nat) (l : List UInt8) : Nat := l.foldl (fun a c => 10 * a + (c.toNat - 48)) a
def valL (l : List UInt8) : Nat := valF 0 l
def lz (l : List UInt8) : Bool := decide (l.head? = some 48) && decide (1 < l.length)
def pnk (l : List UInt8) : Bool := !decide (l = []) && !lz l && l.all isD && decide (valL l ≤ 1099511627776)
def pnv (l : List UInt8) : Int := if pnk l = true then (valL l : Int) else 0
theorem valL_snoc (l : List UInt8) (c : UInt8) : valL (l ++ [c]) = 10 * valL l + (c.toNat - 48) := by unfold valL valF; rw [List.foldl_append]; rfl
theorem valF_ge (l : List UInt8) : ∀ a, a * 10 ^ l.length ≤ valF a l := by
  induction l with
  | nil => intro a; simp [valF]
  | cons c r ih =>
    intro a
    have h := ih (10 * a + (c.toNat - 48))
    show a * 10 ^ (r.length + 1) ≤ valF (10 * a + (c.toNat - 48)) r
    refine Nat.le_trans ?_ h
    rw [Nat.pow_succ, Nat.mul_comm (10 ^ r.length) 10, ← Nat.mul_assoc]
    exact Nat.mul_le_mul_right _ (by omega)
theorem valL_mono (l m : List UInt8) : valL l ≤ valL (l ++ m) := by
  unfold valL
  have : valF 0 (l ++ m) = valF (valF 0 l) m := by unfold valF; rw [List.foldl_append]
  rw [this]
  exact Nat.le_trans (Nat.le_mul_of_pos_right _ (Nat.pow_pos (by omega))) (valF_ge m _)
theorem valL_lt (l : List UInt8) (h : l.all isD = true) : valL l < 10 ^ l.length := by
  have key : ∀ (m : List UInt8), m.all isD = true → ∀ a, valF a m < (a + 1) * 10 ^ m.length := by
    intro m
    induction m with
    | nil => intro _ a; simp [valF]
    | cons c r ih =>
      intro hm a
      rw [List.all_cons, Bool.and_eq_true] at hm
      have hc := hm.1
      unfold isD at hc
      simp only [Bool.and_eq_true, decide_eq_true_eq] at hc
      have h := ih hm.2 (10 * a + (c.toNat - 48))
      refine Nat.lt_of_lt_of_le h ?_
      show _ ≤ (a + 1) * 10 ^ (r.length + 1)
      rw [Nat.pow_succ, Nat.mul_comm (10 ^ r.length) 10, ← Nat.mul_assoc]
      exact Nat.mul_le_mul_right _ (by omega)
  have h0 := key l h 0
  rw [Nat.zero_add, Nat.one_mul] at h0
  exact h0
/-- a text with no zero ahead is at least the power of ten -/
theorem valL_big {l : List UInt8} (h : l.all isD = true) (h0 : l ≠ []) (hz : l.head? ≠ some 48) : 10 ^ (l.length - 1) ≤ valL l := by
  cases l with
  | nil => exact absurd rfl h0
  | cons c r =>
    have hc : c ≠ 48 := fun e => hz (by rw [e]; rfl)
    have hd : isD c = true := by rw [List.all_cons, Bool.and_eq_true] at h; exact h.1
    unfold isD at hd
    simp only [Bool.and_eq_true, decide_eq_true_eq] at hd
    have hc2 : c.toNat ≠ 48 := fun e => hc (UInt8.toNat_inj.1 e)
    have h1 := valF_ge r (10 * 0 + (c.toNat - 48))
    show 10 ^ (r.length + 1 - 1) ≤ valF (10 * 0 + (c.toNat - 48)) r
    refine Nat.le_trans ?_ h1
    rw [Nat.add_sub_cancel]
    exact Nat.le_mul_of_pos_left _ (by omega)
/-- the decimal numeral: its digits, its value, its first digit -/
theorem dec_step (u : Nat) (h : ¬ u < 10) : Lib.decDigits u = Lib.decDigits (u / 10) ++ [UInt8.ofNat (48 + u % 10)] := by rw [Lib.decDigits, dif_neg h]
theorem ofNat_toNat8 (k : Nat) (h : k < 256) : (UInt8.ofNat k).toNat = k := by simp; omega
theorem isD_of (k : Nat) (h : k < 10) : isD (UInt8.ofNat (48 + k)) = true := by
  unfold isD; rw [ofNat_toNat8 _ (by omega), decide_eq_true (by omega), decide_eq_true (by omega)]; rfl
theorem dec_spec (u : Nat) : (Lib.decDigits u).all isD = true ∧ valL (Lib.decDigits u) = u ∧ Lib.decDigits u ≠ [] ∧ (u ≠ 0 → (Lib.decDigits u).head? ≠ some 48) := by
  induction u using Nat.strongRecOn with
  | _ u ih =>
    by_cases h : u < 10
    · rw [Lib.decDigits_one h]
      refine ⟨by rw [List.all_cons, isD_of u h]; rfl, ?_, by simp, fun hu => ?_⟩
      · show 10 * 0 + ((UInt8.ofNat (48 + u)).toNat - 48) = u
        rw [ofNat_toNat8 _ (by omega)]; omega
      · intro e
        have e2 : UInt8.ofNat (48 + u) = 48 := by simpa using e
        have := congrArg UInt8.toNat e2
        rw [ofNat_toNat8 _ (by omega)] at this
        have e48 : (48 : UInt8).toNat = 48 := rfl
        omega
    · obtain ⟨h1, h2, h3, h4⟩ := ih (u / 10) (by omega)
      rw [dec_step u h]
      refine ⟨by rw [List.all_append, h1, List.all_cons, isD_of _ (by omega)]; rfl, ?_, by simp, fun _ => ?_⟩
      · rw [valL_snoc, h2, ofNat_toNat8 _ (by omega)]; omega
      · have := h4 (by omega)
        cases hd : Lib.decDigits (u / 10) with
        | nil => exact absurd hd h3
        | cons c r => rw [hd] at this; simpa using this
/-- a text with no zero ahead is the numeral of its value -/
theorem dec_val (n : Nat) : ∀ l : List UInt8, l.length = n → l.all isD = true → l ≠ [] → lz l = false → Lib.decDigits (valL l) = l := by
  induction n with
  | zero => intro l hl _ h0; exact absurd (List.eq_nil_of_length_eq_zero hl) h0
  | succ n ih =>
    intro l hl hd h0 hz
    obtain ⟨r, c, rfl⟩ : ∃ r c, l = r ++ [c] := ⟨l.dropLast, l.getLast h0, (List.dropLast_concat_getLast h0).symm⟩
    rw [List.all_append, Bool.and_eq_true] at hd
    have hc := hd.2
    rw [List.all_cons, List.all_nil, Bool.and_true] at hc
    unfold isD at hc
    simp only [Bool.and_eq_true, decide_eq_true_eq] at hc
    have ec : UInt8.ofNat (48 + (c.toNat - 48)) = c := by
      rw [show 48 + (c.toNat - 48) = c.toNat by omega]; simp
    by_cases hr : r = []
    · subst hr
      have e : valL ([] ++ [c]) = c.toNat - 48 := by rw [valL_snoc]; show 10 * 0 + _ = _; omega
      rw [e, Lib.decDigits_one (by omega), ec]; rfl
    · have hrl : r.length = n := by rw [List.length_append, List.length_singleton] at hl; omega
      have hn : 0 < r.length := by cases r with
        | nil => exact absurd rfl hr
        | cons _ _ => simp
      have hh : (r ++ [c]).head? = r.head? := by cases r with
        | nil => exact absurd rfl hr
        | cons _ _ => rfl
      have hz2 : r.head? ≠ some 48 := by
        intro e
        unfold lz at hz
        rw [hh, e, decide_eq_true rfl, decide_eq_true (by rw [List.length_append, List.length_singleton]; omega)] at hz
        cases hz
      have hzr : lz r = false := by unfold lz; rw [decide_eq_false hz2]; rfl
      have hv := ih r hrl hd.1 hr hzr
      have hb := valL_big hd.1 hr hz2
      have hp : 1 ≤ 10 ^ (r.length - 1) := Nat.pow_pos (by omega)
      rw [valL_snoc, dec_step _ (by omega), show (10 * valL r + (c.toNat - 48)) / 10 = valL r by omega, show (10 * valL r + (c.toNat - 48)) % 10 = c.toNat - 48 by omega, hv, ec]
theorem pnk_dec {l : List UInt8} (h : pnk l = true) : Lib.itoa (pnv l) = l ∧ l.all isD = true ∧ valL l ≤ 1099511627776 := by
  have h1 := h
  unfold pnk at h
  simp only [Bool.and_eq_true, Bool.not_eq_true', decide_eq_false_iff_not, decide_eq_true_eq] at h
  obtain ⟨⟨⟨h2, h3⟩, h4⟩, h5⟩ := h
  refine ⟨?_, h4, h5⟩
  unfold pnv
  rw [if_pos h1, Lib.itoa_nonneg, dec_val _ l rfl h4 h2 h3]
theorem pnk_itoa (n : Int) : pnk (Lib.itoa n) = (decide (0 ≤ n) && decide (n ≤ 1099511627776)) ∧ (0 ≤ n → n ≤ 1099511627776 → pnv (Lib.itoa n) = n) := by
  by_cases h0 : 0 ≤ n
  · obtain ⟨u, rfl⟩ : ∃ u : Nat, n = u := ⟨n.toNat, by omega⟩
    rw [Lib.itoa_nonneg]
    obtain ⟨h1, h2, h3, h4⟩ := dec_spec u
    have hz : lz (Lib.decDigits u) = false := by
      by_cases hu : u = 0
      · subst hu; rw [Lib.decDigits_one (by omega)]; rfl
      · unfold lz; rw [decide_eq_false (h4 hu)]; rfl
    have hk : pnk (Lib.decDigits u) = decide ((u : Int) ≤ 1099511627776) := by
      unfold pnk
      rw [decide_eq_false h3, hz, h1, h2]
      simp only [Bool.not_false, Bool.true_and]
      rw [decide_eq_decide]; omega
    refine ⟨by rw [hk, decide_eq_true h0, Bool.true_and], fun _ hm => ?_⟩
    unfold pnv
    rw [hk, if_pos (by simpa using hm), h2]
  · refine ⟨?_, fun h => absurd h h0⟩
    rw [decide_eq_false h0, Bool.false_and]
    have : Lib.itoa n = 45 :: Lib.decDigits n.natAbs := by unfold Lib.itoa; rw [if_pos (by omega)]
    unfold pnk
    rw [this, List.all_cons, show isD 45 = false from rfl]
    simp
end Go.Proofs.YtbfgkbcpkldofaaDoor

namespace Go.Proofs.YtbfgkbcpkldofaaDoor
open Go.RowKit

theorem digB_isD (c : UInt8) : digB (c.toNat : Int) = isD c := by
  unfold digB isD
  congr 1 <;> (rw [decide_eq_decide]; omega)
theorem getD_byteN (s : ByteArray) (i : Nat) (h : i < s.size) : s.data.toList[i]? = some s[i] := by
  rw [List.getElem?_eq_getElem (by simpa using h)]; rfl
theorem take_byteN (s : ByteArray) (k : Nat) (h : k < s.size) : s.data.toList.take (k + 1) = s.data.toList.take k ++ [s[k]] := by
  rw [List.take_succ_eq_append_getElem (by simpa using h)]; rfl
theorem pnk_no {l : List UInt8} (h : l = [] ∨ lz l = true ∨ l.all isD = false ∨ 1099511627776 < valL l) : pnk l = false ∧ pnv l = 0 := by
  have h1 : pnk l = false := by
    unfold pnk
    rcases h with h | h | h | h
    · rw [decide_eq_true h]; rfl
    · rw [h]; simp
    · rw [h]; simp
    · rw [decide_eq_false (p := valL l ≤ 1099511627776) (by omega)]; simp
  exact ⟨h1, by unfold pnv; rw [h1]; rfl⟩
theorem pnk_yes {l : List UInt8} (h0 : l ≠ []) (hz : lz l = false) (hd : l.all isD = true) (hm : valL l ≤ 1099511627776) : pnk l = true ∧ pnv l = (valL l : Int) := by
  have h1 : pnk l = true := by unfold pnk; rw [decide_eq_false h0, hz, hd, decide_eq_true hm]; rfl
  exact ⟨h1, by unfold pnv; rw [if_pos h1]⟩
theorem all_take_no {l : List UInt8} {k : Nat} {c : UInt8} (h : l[k]? = some c) (hc : isD c = false) : l.all isD = false := by
  rw [List.all_eq_false]
  exact ⟨c, List.mem_of_getElem? h, by rw [hc]; simp⟩
theorem valL_take_le (l : List UInt8) (k : Nat) : valL (l.take k) ≤ valL l := by
  have := valL_mono (l.take k) (l.drop k)
  rwa [List.take_append_drop] at this
set_option maxRecDepth 100000 in
set_option maxHeartbeats 1000000 in
theorem ParseNumber_any (s : ByteArray) (w : World) (hmax : s.size ≤ 9223372036854775807) :
    Calls Tryd.prog 38 #[.string s] w fun e w' => e = .returned (.tuple #[.int .i64 (pnv s.data.toList), .bool (pnk s.data.toList)]) ∧ w = w' := by
  by_cases he : s.size = 0
  · have hl : s.data.toList = [] := List.eq_nil_of_length_eq_zero (by rw [← Lib.size_eq]; exact he)
    have HN := Lib.hid (pnk_no (l := s.data.toList) (.inl hl))
    have hl2 : s.toList = [] := by rw [Lib.toList_data]; exact hl
    clear hl he
    go_enter Tryd.func38, Tryd.ntmps38
    go_wp2_with fail
    go_ret2
    exact ⟨by rw [HN.out.1, HN.out.2]; rfl, rfl⟩
  have hne : s.data.toList ≠ [] := fun h => he (by rw [Lib.size_eq, h]; rfl)
  have hl : (s.toList == []) = false := by rw [Lib.toList_data, beq_eq_false_iff_ne]; exact hne
  have hl2 : ¬ s.toList = [] := by simpa using hl
  have h0 : 0 < s.size := by omega
  have p0 : (0 : Int) < (s.size : Int) := by omega
  have hh := getD_byteN s 0 h0
  have hhd : s.data.toList.head? = some s[0] := by rw [← hh, List.head?_eq_getElem?]
  have hcs : (((s[0].toNat : Int) == 48) = true ∧ (s.toList == [48]) = false ∧ lz s.data.toList = true) ∨ (((s[0].toNat : Int) == 48) = true ∧ (s.toList == [48]) = true ∧ lz s.data.toList = false) ∨ (((s[0].toNat : Int) == 48) = false ∧ lz s.data.toList = false) := by
    by_cases h : s[0] = 48
    · have e1 : ((s[0].toNat : Int) == 48) = true := by rw [h]; rfl
      by_cases h2 : s.toList = [48]
      · refine .inr (.inl ⟨e1, by rw [beq_iff_eq]; exact h2, ?_⟩)
        rw [Lib.toList_data] at h2; rw [h2]; rfl
      · refine .inl ⟨e1, by rw [beq_eq_false_iff_ne]; exact h2, ?_⟩
        rw [Lib.toList_data] at h2
        unfold lz
        rw [hhd, h, decide_eq_true rfl, Bool.true_and, decide_eq_true_eq]
        rcases hd : s.data.toList with _ | ⟨a, _ | ⟨b, r⟩⟩
        · exact absurd hd hne
        · rw [hd] at hhd h2; simp at hhd; exact absurd (by rw [hhd, h]) h2
        · simp
    · refine .inr (.inr ⟨?_, ?_⟩)
      · rw [beq_eq_false_iff_ne]; intro e; apply h; apply UInt8.toNat_inj.1; show s[0].toNat = 48; omega
      · unfold lz; rw [hhd, decide_eq_false (fun e => h (by simpa using e))]; rfl
  have HH := Lib.hid hne
  clear hh hhd hne
  rcases hcs with ⟨t1, t2, hz⟩ | hcs
  · have HN := Lib.hid (pnk_no (l := s.data.toList) (.inr (.inl hz)))
    have t3 : (!(s.toList == [48])) = true := by rw [t2]; rfl
    clear hz
    go_enter Tryd.func38, Tryd.ntmps38
    go_wp2_with fail
    go_ret2
    exact ⟨by rw [HN.out.1, HN.out.2]; rfl, rfl⟩
  · have hz : lz s.data.toList = false := by rcases hcs with ⟨_, _, h⟩ | ⟨_, h⟩ <;> exact h
    have HZ := Lib.hid hz
    have hcs : (((s[0].toNat : Int) == 48) = true ∧ (!(s.toList == [48])) = false) ∨ ((s[0].toNat : Int) == 48) = false := by
      rcases hcs with ⟨h1, h2, _⟩ | ⟨h1, _⟩
      · exact .inl ⟨h1, by rw [h2]; rfl⟩
      · exact .inr h1
    have HPN : Hid (∀ h : s.data.toList.all isD = false ∨ 1099511627776 < valL s.data.toList, pnk s.data.toList = false ∧ pnv s.data.toList = 0) := fun h => pnk_no (.inr (.inr h))
    have HPY : Hid (∀ (h1 : s.data.toList.all isD = true) (h2 : valL s.data.toList ≤ 1099511627776), pnk s.data.toList = true ∧ pnv s.data.toList = (valL s.data.toList : Int)) := fun h1 h2 => pnk_yes HH.out HZ.out h1 h2
    have HLS := Lib.hid (Lib.size_eq s)
    clear hz
    rcases hcs with ⟨t1, t3⟩ | t1
    all_goals
      go_enter Tryd.func38, Tryd.ntmps38
      go_wp2_with fail
      go_loopw [4, 19] (fun v i wr => ∃ (k V : Nat), k ≤ s.size ∧ i = .int .i64 k ∧ v = .int .i64 V ∧ V ≤ 1099511627776 ∧ Hid (V = valL (s.data.toList.take k)) ∧ Hid ((s.data.toList.take k).all isD = true) ∧ Hid (wr = w)) (fun _ i _ => s.size - (intOf i).toNat)
      case atStart => exact ⟨0, 0, Nat.zero_le _, rfl, rfl, by omega, rfl, rfl, rfl⟩
      case round =>
        obtain ⟨k, V, hk, rfl, rfl, hV, HV, HA, hw⟩ := hrel
        obtain rfl := hw.out
        clear hw
        by_cases hlt : k < s.size
        · have hd : decide ((k : Int) < (s.size : Int)) = true := by simp; omega
          have p1 : (0 : Int) ≤ (k : Int) := by omega
          have p2 : (k : Int) < (s.size : Int) := by omega
          have HG := Lib.hid (getD_byteN s k hlt)
          have HC := Lib.hid (fun w => digit_any (s[k].toNat : Int) w)
          rw [digB_isD] at HC
          cases hc : isD s[k]
          · have HN := Lib.hid (HPN.out (.inl (all_take_no HG.out hc)))
            rw [hc] at HC
            clear hc HPN HPY
            go_wp2_with fail
            refine (HC.out _).mono ?_
            rintro e w' ⟨rfl, rfl⟩
            go_wp2_with fail
            go_ret2
            exact ⟨by rw [HN.out.1, HN.out.2]; rfl, rfl⟩
          · rw [hc] at HC
            have hc2 := hc
            unfold isD at hc2
            simp only [Bool.and_eq_true, decide_eq_true_eq] at hc2
            have hva : valL (s.data.toList.take (k + 1)) = 10 * V + (s[k].toNat - 48) := by rw [take_byteN s k hlt, valL_snoc, ← HV.out]
            have hal : (s.data.toList.take (k + 1)).all isD = true := by rw [take_byteN s k hlt, List.all_append, HA.out, List.all_cons, hc]; rfl
            have hle := valL_take_le s.data.toList (k + 1)
            obtain ⟨m, hm⟩ : ∃ m, 10 * V + (s[k].toNat - 48) = m := ⟨_, rfl⟩
            have q1 : IntKind.i64.wrap (10 * (V : Int)) = 10 * (V : Int) := IntWalk.i64_in _ (by omega)
            have q2 : ((s[k].toNat : Int) - 48) % 256 = (s[k].toNat : Int) - 48 := by omega
            have q3 : 10 * (V : Int) + ((s[k].toNat : Int) - 48) = (m : Int) := by omega
            have q4 : IntKind.i64.wrap (m : Int) = (m : Int) := IntWalk.i64_in _ (by omega)
            rw [hm] at hva
            by_cases hb : 1099511627776 < m
            · have hbd : decide ((m : Int) > 1099511627776) = true := by simp; omega
              have HN := Lib.hid (HPN.out (.inr (by omega)))
              clear hc hc2 hva hal hle hm HPN HPY
              go_wp2_with fail
              refine (HC.out _).mono ?_
              rintro e w' ⟨rfl, rfl⟩
              go_wp2_with fail
              go_ret2
              exact ⟨by rw [HN.out.1, HN.out.2]; rfl, rfl⟩
            · have hbd : decide ((m : Int) > 1099511627776) = false := by simp; omega
              have HVA := Lib.hid hva.symm; have HAL := Lib.hid hal
              clear hc hc2 hva hal hle hm HPN HPY
              go_wp2_with fail
              refine (HC.out _).mono ?_
              rintro e w' ⟨rfl, rfl⟩
              go_wp2_with fail
              go_roundw
              case rel => exact ⟨k + 1, m, by omega, by go_num, rfl, by omega, HVA, HAL, by first | rfl | exact trivial⟩
              case measure => simp [intOf]; omega
        · obtain rfl : k = s.size := by omega
          have hd : decide ((s.size : Int) < (s.size : Int)) = false := by simp
          have htk : s.data.toList.take s.size = s.data.toList := List.take_of_length_le (by rw [← HLS.out]; exact Nat.le_refl _)
          have ha := HA.out; have hv := HV.out
          rw [htk] at ha hv
          have HN := Lib.hid (HPY.out ha (by rw [← hv]; exact hV))
          have HV2 := Lib.hid hv
          clear htk ha hv HPN HPY
          go_wp2_with fail
          go_ret2
          exact ⟨by rw [HN.out.1, HN.out.2, ← HV2.out]; rfl, rfl⟩
end Go.Proofs.YtbfgkbcpkldofaaDoor

namespace Go.Proofs.YtbfgkbcpkldofaaDoor
open Go.RowKit

theorem cat_ret (P S : ByteArray) : P ++ S = ⟨(P.data.toList ++ S.data.toList).toArray⟩ := by
  apply ByteArray.ext; simp
/-- the numeral, none for 0 -/
def dz (u : Nat) : List UInt8 := if u = 0 then [] else Lib.decDigits u
theorem dzN_step (u : Nat) (h : 0 < u) : dz u = dz (u / 10) ++ [UInt8.ofNat (48 + u % 10)] := by
  unfold dz
  rw [if_neg (by omega)]
  by_cases h10 : u < 10
  · rw [Lib.decDigits_one h10, if_pos (by omega), show u % 10 = u by omega]; rfl
  · rw [dec_step u h10, if_neg (by omega)]
set_option maxRecDepth 100000 in
set_option maxHeartbeats 1000000 in
theorem refNumber_any (n : Int) (h0 : -9223372036854775808 ≤ n) (h1 : n ≤ 9223372036854775807) (w : World) :
    Calls Tryd.prog 36 #[.int .i64 n] w fun e w' => e = .returned (.string ⟨(Lib.itoa n).toArray⟩) ∧ Below w.heap.size w w' := by
  by_cases hz : n = 0
  · subst hz
    have HI : Hid ((Lib.itoa 0) = [48]) := by show _ = _; rw [show (0 : Int) = ((0 : Nat) : Int) from rfl, Lib.itoa_nonneg, Lib.decDigits_one (by omega)]; rfl
    go_enter Tryd.func36, Tryd.ntmps36
    go_wp2_with fail
    go_ret
    exact ⟨by rw [HI.out]; rfl, Below.refl _ _⟩
  · have e0 : (n == 0) = false := by simpa using hz
    have hcs : ∃ u : Nat, u < 18446744073709551616 ∧ 0 < u ∧ ((decide (n < 0) = true ∧ IntKind.u64.wrap (-IntKind.u64.wrap n) = (u : Int) ∧ Lib.itoa n = 45 :: dz u) ∨ (decide (n < 0) = false ∧ n = (u : Int) ∧ Lib.itoa n = dz u)) := by
      by_cases hneg : n < 0
      · refine ⟨n.natAbs, by omega, by omega, .inl ⟨by simpa using hneg, ?_, ?_⟩⟩
        · show (-(n % 18446744073709551616)) % 18446744073709551616 = _; omega
        · unfold Lib.itoa dz; rw [if_pos hneg, if_neg (by omega)]
      · refine ⟨n.toNat, by omega, by omega, .inr ⟨by simp; omega, by omega, ?_⟩⟩
        unfold Lib.itoa dz; rw [if_neg hneg, if_neg (by omega)]
    obtain ⟨u0, hu, hu0, hcs⟩ := hcs
    clear h0 h1 hz
    have HST : Hid (∀ (wr : World) (c : UInt8), (convert 51 9 (.slice (some ⟨wr.heap.size, 0, none⟩) 1 1)).run Tryd.prog (wr.alloc (.cells #[.int .u8 (c.toNat : Int)] 5)) = .ok (.string ⟨#[c]⟩) (wr.alloc (.cells #[.int .u8 (c.toNat : Int)] 5))) := fun wr c => by
      refine run_convert_bytes_back _ 51 9 5 _ 1 [c] Tryd.underlying51 Tryd.underlying5 Tryd.underlying9 (fun j hj => ?_)
      have hj0 : j = 0 := by simp at hj; omega
      subst hj0
      rw [Addr.add_mid, cell_of_row _ wr.heap.size (0 + 0) _ _ (0, 0) (heap_alloc_new wr _)]; rfl
    rcases hcs with ⟨hd, hq, hi⟩ | ⟨hd, hq, hi⟩
    focus
      have HI := Lib.hid hi
      clear hi
      go_enter Tryd.func36, Tryd.ntmps36
      go_wp2_with fail
    rotate_left
    focus
      have HI := Lib.hid hi
      have HQ := Lib.hid hq
      clear hi
      subst hq
      go_enter Tryd.func36, Tryd.ntmps36
      go_wp2_with fail
    all_goals
      go_loopw [4, 5] (fun a b wr => ∃ (u : Nat) (S : ByteArray), a = .int .u64 u ∧ b = .string S ∧ S.size ≤ 20 ∧ u < 18446744073709551616 ∧ Hid (u < 10 ^ (20 - S.size)) ∧ Hid (dz u ++ S.data.toList = dz u0) ∧ Hid (Below w.heap.size w wr)) (fun a _ _ => (intOf a).toNat)
      case atStart => exact ⟨u0, ⟨#[]⟩, rfl, rfl, by show 0 ≤ 20; omega, hu, by show u0 < 10 ^ 20; omega, by show _ = _; simp, Below.refl _ _⟩
      case round =>
        obtain ⟨u, S, rfl, rfl, hS, hu2, HP, HD, hbe⟩ := hrel
        have hbs := hbe.out.size
        by_cases hlt : 0 < u
        · have hd2 : decide ((u : Int) > 0) = true := by simp; omega
          obtain ⟨c, hc⟩ : ∃ c : UInt8, c = UInt8.ofNat (48 + u % 10) := ⟨_, rfl⟩
          have hcn : c.toNat = 48 + u % 10 := by rw [hc, ofNat_toNat8 _ (by omega)]
          have q1 : 48 + (u : Int) % 10 = (c.toNat : Int) := by omega
          have q1' : 48 + Int.tmod (u : Int) 10 = (c.toNat : Int) := by rw [Int.tmod_eq_emod_of_nonneg (by omega)]; omega
          obtain ⟨v, hv⟩ : ∃ v, u / 10 = v := ⟨_, rfl⟩
          have q2 : (u : Int) / 10 = (v : Int) := by omega
          have q2' : Int.tdiv (u : Int) 10 = (v : Int) := by rw [Int.tdiv_eq_ediv_of_nonneg (by omega)]; omega
          have q3 : (c.toNat : Int) % 256 = (c.toNat : Int) := by omega
          have hrun := HST.out wr c
          have hS2 : S.size < 20 := by
            rcases Nat.lt_or_ge S.size 20 with h | h
            · exact h
            · have := HP.out
              rw [show 20 - S.size = 0 by omega] at this
              omega
          have HD2 : Hid (dz v ++ ((⟨#[c]⟩ : ByteArray) ++ S).data.toList = dz u0) := by
            show _ = _
            rw [← HD.out, dzN_step u hlt, ← hc, hv, List.append_assoc]
            congr 1
          have HP2 : Hid (v < 10 ^ (20 - (S.size + 1))) := by
            show _ < _
            have h1 := HP.out
            rw [show 20 - S.size = (20 - (S.size + 1)) + 1 by omega, Nat.pow_succ] at h1
            omega
          have hcat : (1 : Int) + (S.size : Int) ≤ 9223372036854775807 := by omega
          have hv2 : v < u := by omega
          clear hc hcn hv
          go_wp2_with fail
          go_roundw
          case rel =>
            have hsz : ((⟨#[c]⟩ : ByteArray) ++ S).size = S.size + 1 := by rw [ByteArray.size_append]; show 1 + S.size = _; omega
            refine ⟨v, (⟨#[c]⟩ : ByteArray) ++ S, rfl, rfl, by rw [hsz]; omega, by omega, ?_, HD2, hbe.out.alloc hbs _⟩
            rw [hsz]; exact HP2
          case measure => simp [intOf]; omega
        · obtain rfl : u = 0 := by omega
          have hd2 : decide (((0 : Nat) : Int) > 0) = false := by decide
          have HF : Hid (S.data.toList = dz u0) := HD.out
          have hcat : (1 : Int) + (S.size : Int) ≤ 9223372036854775807 := by omega
          clear HST
          go_wp2_with fail
          go_ret
          refine ⟨?_, hbe.out⟩
          rw [HI.out, ← HF.out]
          show Ending.returned (.string (_ ++ S)) = _
          rw [cat_ret]; rfl
end Go.Proofs.YtbfgkbcpkldofaaDoor

namespace Go.Proofs.YtbfgkbcpkldofaaDoor
open Go.RowKit

theorem pnk_long {l : List UInt8} (h : 13 < l.length) : pnk l = false ∧ pnv l = 0 := by
  by_cases hz : lz l = true
  · exact pnk_no (.inr (.inl hz))
  · by_cases hd : l.all isD = true
    · have h0 : l ≠ [] := fun e => by rw [e] at h; exact absurd h (by decide)
      have hh : l.head? ≠ some 48 := fun e => hz (by unfold lz; rw [e, decide_eq_true rfl, decide_eq_true (by omega)]; rfl)
      have h1 := valL_big hd h0 hh
      have h2 : 10 ^ 13 ≤ 10 ^ (l.length - 1) := Nat.pow_le_pow_right (by omega) (by omega)
      exact pnk_no (.inr (.inr (.inr (by omega))))
    · exact pnk_no (.inr (.inr (.inl (by simpa using hd))))
set_option maxRecDepth 100000 in
set_option maxHeartbeats 1000000 in
theorem refParseNumber_any (s : ByteArray) (w : World) :
    Calls Tryd.prog 40 #[.string s] w fun e w' => e = .returned (.tuple #[.int .i64 (pnv s.data.toList), .bool (pnk s.data.toList)]) ∧ w = w' := by
  by_cases he : s.size = 0
  · have hl : s.data.toList = [] := List.eq_nil_of_length_eq_zero (by rw [← Lib.size_eq]; exact he)
    have HN := Lib.hid (pnk_no (l := s.data.toList) (.inl hl))
    have hl2 : s.toList = [] := by rw [Lib.toList_data]; exact hl
    clear hl he
    go_enter Tryd.func40, Tryd.ntmps40
    go_wp2_with fail
    go_ret2
    exact ⟨by rw [HN.out.1, HN.out.2]; rfl, rfl⟩
  have hne : s.data.toList ≠ [] := fun h => he (by rw [Lib.size_eq, h]; rfl)
  have hl : (s.toList == []) = false := by rw [Lib.toList_data, beq_eq_false_iff_ne]; exact hne
  have hl2 : ¬ s.toList = [] := by simpa using hl
  by_cases h13 : 13 < s.size
  · have HN := Lib.hid (pnk_long (l := s.data.toList) (by rw [← Lib.size_eq]; exact h13))
    have hd : decide ((s.size : Int) > 13) = true := by simp; omega
    clear hne he
    go_enter Tryd.func40, Tryd.ntmps40
    go_wp2_with fail
    go_ret2
    exact ⟨by rw [HN.out.1, HN.out.2]; rfl, rfl⟩
  have hd13 : decide ((s.size : Int) > 13) = false := by simp; omega
  have h0 : 0 < s.size := by omega
  have p0 : (0 : Int) < (s.size : Int) := by omega
  have hh := getD_byteN s 0 h0
  have hhd : s.data.toList.head? = some s[0] := by rw [← hh, List.head?_eq_getElem?]
  have hcs : (((s[0].toNat : Int) == 48) = true ∧ decide ((s.size : Int) > 1) = true ∧ lz s.data.toList = true) ∨ (((s[0].toNat : Int) == 48) = true ∧ decide ((s.size : Int) > 1) = false ∧ lz s.data.toList = false) ∨ (((s[0].toNat : Int) == 48) = false ∧ lz s.data.toList = false) := by
    have hsz := Lib.size_eq s
    by_cases h : s[0] = 48
    · have e1 : ((s[0].toNat : Int) == 48) = true := by rw [h]; rfl
      by_cases h2 : 1 < s.size
      · exact .inl ⟨e1, by simp; omega, by unfold lz; rw [hhd, h, decide_eq_true rfl, decide_eq_true (by omega)]; rfl⟩
      · exact .inr (.inl ⟨e1, by simp; omega, by unfold lz; rw [decide_eq_false (p := 1 < _) (by omega), Bool.and_false]⟩)
    · refine .inr (.inr ⟨?_, ?_⟩)
      · rw [beq_eq_false_iff_ne]; intro e; apply h; apply UInt8.toNat_inj.1; show s[0].toNat = 48; omega
      · unfold lz; rw [hhd, decide_eq_false (fun e => h (by simpa using e))]; rfl
  have HH := Lib.hid hne
  clear hh hhd hne
  rcases hcs with ⟨t1, t2, hz⟩ | hcs
  · have HN := Lib.hid (pnk_no (l := s.data.toList) (.inr (.inl hz)))
    clear hz
    go_enter Tryd.func40, Tryd.ntmps40
    go_wp2_with fail
    go_ret2
    exact ⟨by rw [HN.out.1, HN.out.2]; rfl, rfl⟩
  · have hz : lz s.data.toList = false := by rcases hcs with ⟨_, _, h⟩ | ⟨_, h⟩ <;> exact h
    have HZ := Lib.hid hz
    have hcs : (((s[0].toNat : Int) == 48) = true ∧ decide ((s.size : Int) > 1) = false) ∨ ((s[0].toNat : Int) == 48) = false := by
      rcases hcs with ⟨h1, h2, _⟩ | ⟨h1, _⟩
      · exact .inl ⟨h1, h2⟩
      · exact .inr h1
    have HPN : Hid (∀ h : s.data.toList.all isD = false ∨ 1099511627776 < valL s.data.toList, pnk s.data.toList = false ∧ pnv s.data.toList = 0) := fun h => pnk_no (.inr (.inr h))
    have HPY : Hid (∀ (h1 : s.data.toList.all isD = true) (h2 : valL s.data.toList ≤ 1099511627776), pnk s.data.toList = true ∧ pnv s.data.toList = (valL s.data.toList : Int)) := fun h1 h2 => pnk_yes HH.out HZ.out h1 h2
    have HLS := Lib.hid (Lib.size_eq s)
    clear hz
    rcases hcs with ⟨t1, t3⟩ | t1
    all_goals
      go_enter Tryd.func40, Tryd.ntmps40
      go_wp2_with fail
      go_loopw [4, 5] (fun v i wr => ∃ (k V : Nat), k ≤ s.size ∧ i = .int .i64 k ∧ v = .int .i64 V ∧ V < 10000000000000 ∧ Hid (V = valL (s.data.toList.take k)) ∧ Hid ((s.data.toList.take k).all isD = true) ∧ Hid (wr = w)) (fun _ i _ => s.size - (intOf i).toNat)
      case atStart => exact ⟨0, 0, Nat.zero_le _, rfl, rfl, by omega, rfl, rfl, rfl⟩
      case round =>
        obtain ⟨k, V, hk, rfl, rfl, hV, HV, HA, hw⟩ := hrel
        obtain rfl := hw.out
        clear hw
        by_cases hlt : k < s.size
        · have hd : decide ((k : Int) < (s.size : Int)) = true := by simp; omega
          have p1 : (0 : Int) ≤ (k : Int) := by omega
          have p2 : (k : Int) < (s.size : Int) := by omega
          have HG := Lib.hid (getD_byteN s k hlt)
          cases hc : isD s[k]
          · have HN := Lib.hid (HPN.out (.inl (all_take_no HG.out hc)))
            have hcs2 : decide ((s[k].toNat : Int) < 48) = true ∨ (decide ((s[k].toNat : Int) < 48) = false ∧ decide ((s[k].toNat : Int) > 57) = true) := by
              unfold isD at hc
              by_cases h1 : s[k].toNat < 48
              · exact .inl (by simp; omega)
              · refine .inr ⟨by simp; omega, ?_⟩
                rw [decide_eq_true (by omega), Bool.true_and, decide_eq_false_iff_not] at hc
                simp; omega
            clear hc HPN HPY
            rcases hcs2 with d1 | ⟨d1, d2⟩
            all_goals
              go_wp2_with fail
              go_ret2
              exact ⟨by rw [HN.out.1, HN.out.2]; rfl, rfl⟩
          · have hc2 := hc
            unfold isD at hc2
            simp only [Bool.and_eq_true, decide_eq_true_eq] at hc2
            have d1 : decide ((s[k].toNat : Int) < 48) = false := by simp; omega
            have d2 : decide ((s[k].toNat : Int) > 57) = false := by simp; omega
            have hva : valL (s.data.toList.take (k + 1)) = 10 * V + (s[k].toNat - 48) := by rw [take_byteN s k hlt, valL_snoc, ← HV.out]
            have hal : (s.data.toList.take (k + 1)).all isD = true := by rw [take_byteN s k hlt, List.all_append, HA.out, List.all_cons, hc]; rfl
            have hbd := valL_lt _ hal
            have hlen : (s.data.toList.take (k + 1)).length = k + 1 := by rw [List.length_take, ← HLS.out]; omega
            rw [hlen] at hbd
            have hp : 10 ^ (k + 1) ≤ 10 ^ 13 := Nat.pow_le_pow_right (by omega) (by omega)
            obtain ⟨m, hm⟩ : ∃ m, 10 * V + (s[k].toNat - 48) = m := ⟨_, rfl⟩
            have q1 : IntKind.i64.wrap (10 * (V : Int)) = 10 * (V : Int) := IntWalk.i64_in _ (by omega)
            have q2 : ((s[k].toNat : Int) - 48) % 256 = (s[k].toNat : Int) - 48 := by omega
            have q3 : 10 * (V : Int) + ((s[k].toNat : Int) - 48) = (m : Int) := by omega
            rw [hm] at hva
            have hm13 : m < 10000000000000 := by omega
            have q4 : IntKind.i64.wrap (m : Int) = (m : Int) := IntWalk.i64_in _ (by omega)
            have HVA := Lib.hid hva.symm; have HAL := Lib.hid hal
            clear hc hc2 hva hal hbd hlen hp hm HPN HPY
            go_wp2_with fail
            go_roundw
            case rel => exact ⟨k + 1, m, by omega, by go_num, rfl, hm13, HVA, HAL, by first | rfl | exact trivial⟩
            case measure => simp [intOf]; omega
        · obtain rfl : k = s.size := by omega
          have hd : decide ((s.size : Int) < (s.size : Int)) = false := by simp
          have htk : s.data.toList.take s.size = s.data.toList := List.take_of_length_le (by rw [← HLS.out]; exact Nat.le_refl _)
          have ha := HA.out; have hv := HV.out
          rw [htk] at ha hv
          by_cases hb : 1099511627776 < V
          · have hbd : decide ((V : Int) > 1099511627776) = true := by simp; omega
            have HN := Lib.hid (HPN.out (.inr (by rw [← hv]; exact hb)))
            clear htk ha hv HPN HPY
            go_wp2_with fail
            go_ret2
            exact ⟨by rw [HN.out.1, HN.out.2]; rfl, rfl⟩
          · have hbd : decide ((V : Int) > 1099511627776) = false := by simp; omega
            have HN := Lib.hid (HPY.out ha (by rw [← hv]; omega))
            have HV2 := Lib.hid hv
            clear htk ha hv HPN HPY
            go_wp2_with fail
            go_ret2
            exact ⟨by rw [HN.out.1, HN.out.2, ← HV2.out]; rfl, rfl⟩
end Go.Proofs.YtbfgkbcpkldofaaDoor
