/-
  Versions, the reference: the walks of Contains, made, number, LastIndex (strings of at most 100000 bytes).
-/
import Derived.Test.YtceeilojcifgeaaGreatDoorVrfA
namespace Go.Proofs.YtceeilojcifgeaaGreatDoor
open Go.RowKit

theorem idx_has (o : BL) (c : UInt8) : decide (Lib.indexByte o c ≥ 0) = o.contains c := by
  rcases idx_cases c o with ⟨h1, h2⟩ | ⟨a, r, rfl, h2, h3⟩
  · rw [h1, Bool.eq_iff_iff, decide_eq_true_iff, List.contains_iff_mem]
    exact ⟨fun h => absurd h (by decide), fun h => absurd rfl (h2 c h)⟩
  · rw [h3, Bool.eq_iff_iff, decide_eq_true_iff, List.contains_iff_mem]
    exact ⟨fun _ => by simp, fun _ => by omega⟩
set_option maxRecDepth 100000 in
set_option maxHeartbeats 400000 in
theorem contains_anyV (o : BL) (c : UInt8) (w : World) :
    Calls Tryz.prog 71 #[.string (bs o), .string (oneB c)] w fun e w' => e = .returned (.bool (o.contains c)) ∧ w = w' := by
  have HI := Lib.hid (fun w => index_anyS (bs o) c w)
  rw [indexB_oneS, bs_data] at HI
  have HX := Lib.hid (idx_has o c)
  generalize Lib.indexByte o c = i at *
  generalize bs o = s at *
  generalize oneB c = t at *
  go_enter Tryz.func71, Tryz.ntmps71
  go_wp2_with fail
  refine (HI.out _).mono ?_
  rintro e w' ⟨rfl, rfl⟩
  go_wp2_with fail
  go_ret
  exact ⟨ret_boolV (by rw [← HX.out]), rfl⟩
/-- whether a byte is a letter, a digit or one of the others -/
def okB (o : BL) (c : UInt8) : Bool := isL c || (isD c || o.contains c)
def madeB (o l : BL) : Bool := l.all (okB o) && !(l == [])
theorem madeB_iff (o l : BL) : madeB o l = true ↔ (∀ c ∈ l, okB o c = true) ∧ l ≠ [] := by
  unfold madeB; rw [Bool.and_eq_true, List.all_eq_true, Bool.not_eq_true', beq_eq_false_iff_ne]
theorem oneB_bs (c : UInt8) : oneB c = bs [c] := rfl
set_option maxRecDepth 100000 in
set_option maxHeartbeats 2000000 in
theorem rMade_any (o l : BL) (w : World) (hl : l.length ≤ 100000) :
    Calls Tryz.prog 49 #[.string (bs l), .string (bs o)] w fun e w' => e = .returned (.bool (madeB o l)) ∧ w = w' := by
  obtain ⟨r, hr, hg, hs, -, -⟩ := bs_facts l
  have HG := Lib.hid hg; have HS := Lib.hid hs
  have hsz : r.size ≤ 100000 := by omega
  have HNE := Lib.hid (show (!r.toList.isEmpty) = !(l == []) by rw [← hr, bs_empE])
  have HEX := Lib.hid (show ∀ j, ∀ h : j < l.length, r.extract j (j + 1) = oneB l[j] by
    intro j h
    rw [← hr, bs_extract, oneB_bs, show j + 1 - j = 1 by omega, List.drop_eq_getElem_cons h, List.take_succ_cons, List.take_zero])
  have HCT := Lib.hid (fun c w => contains_anyV o c w)
  rw [hr]
  generalize bs o = so at *
  clear hg hs hr
  go_enter Tryz.func49, Tryz.ntmps49
  go_wp2_with fail
  go_loop [5] (fun i => ∃ j : Nat, j ≤ r.size ∧ i = .int .i64 j ∧ Hid (∀ c ∈ l.take j, okB o c = true)) (fun i => r.size - (intOf i).toNat)
  case atStart => exact ⟨0, Nat.zero_le _, rfl, fun c hc => by simp at hc⟩
  case round =>
    obtain ⟨j, hj, rfl, HA⟩ := hrel
    by_cases hlt : j < r.size
    · have hjl : j < l.length := by have := HS.out; omega
      have hd : decide ((j : Int) < (r.size : Int)) = true := by simp; omega
      have q0 : (0 : Int) ≤ (j : Int) := by omega
      have q1 : (j : Int) < (r.size : Int) := by omega
      have q2 : (j : Int) ≤ (j : Int) + 1 := by omega
      have q3 : (j : Int) + 1 ≤ (r.size : Int) := by omega
      have q5 : ((j : Int) + 1).toNat = j + 1 := by omega
      have HC := Lib.hid (fun w => rDigit_any (r[j]) w)
      have HL := Lib.hid (fun w => rLetter_any (r[j]) w)
      have HT := Lib.hid (fun w => HCT.out l[j] w)
      rw [← HEX.out j hjl] at HT
      have HE : Hid (okB o l[j] = (isL l[j] || (isD l[j] || o.contains l[j]))) := rfl
      have HRL := Lib.hid (HG.out j hlt hjl)
      rw [show isD (r[j]) = isD l[j] by rw [HRL.out]] at HC
      rw [show isL (r[j]) = isL l[j] by rw [HRL.out]] at HL
      have NXT := Lib.hid (fun h : okB o l[j] = true => (all_succ hjl HA.out h : ∀ c ∈ l.take (j + 1), okB o c = true))
      have NOT := Lib.hid (show okB o l[j] = false → madeB o l = false by
        intro h0
        cases h : madeB o l
        · rfl
        · exact absurd (((madeB_iff o l).1 h).1 _ (List.getElem_mem hjl)) (by rw [h0]; simp))
      generalize isL l[j] = a at *
      generalize isD l[j] = b at *
      generalize o.contains l[j] = c at *
      generalize okB o l[j] = k at *
      cases a
      · cases b
        · cases c
          · have HX := Lib.hid (NOT.out (by rw [HE.out]; rfl))
            clear NXT NOT
            go_wp2_with fail
            refine (HL.out _).mono ?_
            rintro e w' ⟨rfl, rfl⟩
            go_wp2_with fail
            refine (HC.out _).mono ?_
            rintro e w' ⟨rfl, rfl⟩
            go_wp2_with fail
            refine (HT.out _).mono ?_
            rintro e w' ⟨rfl, rfl⟩
            go_wp2_with fail
            go_ret
            exact ⟨by rw [HX.out]; rfl, rfl⟩
          · have HX := Lib.hid (NXT.out (by rw [HE.out]; rfl))
            clear NXT NOT
            go_wp2_with fail
            refine (HL.out _).mono ?_
            rintro e w' ⟨rfl, rfl⟩
            go_wp2_with fail
            refine (HC.out _).mono ?_
            rintro e w' ⟨rfl, rfl⟩
            go_wp2_with fail
            refine (HT.out _).mono ?_
            rintro e w' ⟨rfl, rfl⟩
            go_wp2_with fail
            go_round
            case rel => exact ⟨j + 1, by omega, by go_num, HX.out⟩
            case measure => simp [intOf]; omega
        · have HX := Lib.hid (NXT.out (by rw [HE.out]; rfl))
          clear NXT NOT
          go_wp2_with fail
          refine (HL.out _).mono ?_
          rintro e w' ⟨rfl, rfl⟩
          go_wp2_with fail
          refine (HC.out _).mono ?_
          rintro e w' ⟨rfl, rfl⟩
          go_wp2_with fail
          go_round
          case rel => exact ⟨j + 1, by omega, by go_num, HX.out⟩
          case measure => simp [intOf]; omega
      · have HX := Lib.hid (NXT.out (by rw [HE.out]; rfl))
        clear NXT NOT
        go_wp2_with fail
        refine (HL.out _).mono ?_
        rintro e w' ⟨rfl, rfl⟩
        go_wp2_with fail
        go_round
        case rel => exact ⟨j + 1, by omega, by go_num, HX.out⟩
        case measure => simp [intOf]; omega
    · obtain rfl : j = r.size := by omega
      have hd : decide ((r.size : Int) < (r.size : Int)) = false := by simp
      have HX := Lib.hid (show (!r.toList.isEmpty) = madeB o l by
        have h1 : ∀ c ∈ l, okB o c = true := by have := HA.out; rw [HS.out, List.take_length] at this; exact this
        rw [HNE.out, Bool.eq_iff_iff, madeB_iff]
        simp only [Bool.not_eq_true', beq_eq_false_iff_ne]
        exact ⟨fun h => ⟨h1, h⟩, fun h => h.2⟩)
      go_wp2_with fail
      go_ret
      exact ⟨ret_boolV HX.out, rfl⟩
/-- a number without superfluous zeros, as the reference has it -/
def numB (l : BL) : Bool := digs l && plainN l
theorem plainN_cons (x : UInt8) (l : BL) (h : digs (x :: l) = true) : plainN (x :: l) = (((x.toNat : Int) != 48) || decide (l.length = 0)) := by
  unfold plainN
  cases l with
  | nil =>
    cases hx : ((x.toNat : Int) != 48)
    · have : x = 48 := UInt8.toNat_inj.1 (by rw [bne_eq_false_iff_eq] at hx; show x.toNat = 48; omega)
      subst this; rfl
    · simp only [hx, Bool.or_true, Bool.true_or]
  | cons y l => simp
set_option maxRecDepth 100000 in
set_option maxHeartbeats 1000000 in
theorem rNumber_any (l : BL) (w : World) (hl : l.length ≤ 100000) :
    Calls Tryz.prog 50 #[.string (bs l)] w fun e w' => e = .returned (.bool (numB l)) ∧ w = w' := by
  have HC := Lib.hid (fun w => rDigits_any l w hl)
  obtain ⟨q, hq⟩ : ∃ q, digs l = q := ⟨_, rfl⟩
  have HX : Hid (numB l = (digs l && plainN l)) := rfl
  rw [hq] at HC HX
  cases q
  · generalize bs l = s at *
    clear hq
    go_enter Tryz.func50, Tryz.ntmps50
    go_wp2_with fail
    refine (HC.out _).mono ?_
    rintro e w' ⟨rfl, rfl⟩
    go_wp2_with fail
    go_ret
    exact ⟨by rw [HX.out]; rfl, rfl⟩
  · cases l with
    | nil => cases hq
    | cons x l =>
      obtain ⟨r, hr, hg, hs, -, -⟩ := bs_facts (x :: l)
      have HP := Lib.hid (plainN_cons x l hq)
      have hsz : 0 < r.size := by rw [hs]; simp
      have q2 : (0 : Int) < (r.size : Int) := by omega
      have HG := Lib.hid (show r[0] = x from hg 0 hsz (by simp))
      have HS := Lib.hid hs
      rw [hr]
      rw [hr] at HC
      clear hg hs hr hq
      obtain ⟨p, hp⟩ : ∃ p, ((r[0].toNat : Int) != 48) = p := ⟨_, rfl⟩
      cases p
      · have e1 : ((r.size : Int) == 1) = decide (l.length = 0) := by
          have := HS.out; rw [Bool.eq_iff_iff, beq_iff_eq, decide_eq_true_iff]; simp at this; omega
        have HY := Lib.hid (show numB (x :: l) = decide (l.length = 0) by rw [HX.out, HP.out, ← HG.out, hp]; rfl)
        obtain ⟨z, hz⟩ : ∃ z, decide (l.length = 0) = z := ⟨_, rfl⟩
        rw [hz] at e1 HY
        clear hz HP
        go_enter Tryz.func50, Tryz.ntmps50
        go_wp2_with fail
        refine (HC.out _).mono ?_
        rintro e w' ⟨rfl, rfl⟩
        go_wp2_with fail
        go_ret
        exact ⟨by rw [HY.out]; rfl, rfl⟩
      · have HY := Lib.hid (show numB (x :: l) = true by rw [HX.out, HP.out, ← HG.out, hp]; rfl)
        clear HP
        go_enter Tryz.func50, Tryz.ntmps50
        go_wp2_with fail
        refine (HC.out _).mono ?_
        rintro e w' ⟨rfl, rfl⟩
        go_wp2_with fail
        go_ret
        exact ⟨by rw [HY.out]; rfl, rfl⟩
set_option maxRecDepth 100000 in
set_option maxHeartbeats 1000000 in
theorem lastIndex_anyV (c : UInt8) (l : BL) (w : World) (hl : l.length ≤ 100000) :
    Calls Tryz.prog 51 #[.string (bs l), .string (oneB c)] w fun e w' => e = .returned (.int .i64 (lastI c l)) ∧ w = w' := by
  have HC := Lib.hid (fun w => lastByte_any c l w hl)
  have hsz := oneB_size c
  have hat := oneB_at c
  go_enter Tryz.func51, Tryz.ntmps51
  go_wp2_with fail
  refine (HC.out _).mono ?_
  rintro e w' ⟨rfl, rfl⟩
  go_wp2_with fail
  go_ret
  exact ⟨rfl, rfl⟩
end Go.Proofs.YtceeilojcifgeaaGreatDoor
