/-
  Versions, the reference: the walks of weight, split and part (strings of at most 100000 bytes).
-/
import Derived.Test.YtceeilojcifgeaaGreatDoorVorB
namespace Go.Proofs.YtceeilojcifgeaaGreatDoor
open Go.RowKit

/-- the weight at a place; 1: the prefix has ended -/
def wt (s : BL) (i : Nat) : Int := if h : i < s.length then wgt s[i] else 1
theorem wt_rng (s : BL) (i : Nat) : 0 ≤ wt s i ∧ wt s i ≤ 600 := by
  unfold wt; split
  · have := UInt8.toNat_lt (s[i]); unfold wgt; split
    · omega
    · split <;> omega
  · omega
set_option maxRecDepth 100000 in
set_option maxHeartbeats 1000000 in
theorem rWeight_any (s : BL) (i : Nat) (w : World) (hs : s.length ≤ 100000) (hi : i ≤ 100000) :
    Calls Tryz.prog 66 #[.string (bs s), .int .i64 i] w fun e w' => e = .returned (.int .i64 (wt s i)) ∧ w = w' := by
  obtain ⟨r, hr, hg, hz, -, -⟩ := bs_facts s
  rw [hr]
  by_cases h : i < s.length
  · have hir : i < r.size := by omega
    have hc := hg i hir h
    have HW := Lib.hid (show wt s i = wgt s[i] by unfold wt; rw [dif_pos h])
    have d1 : decide ((i : Int) ≥ (r.size : Int)) = false := by rw [decide_eq_false_iff_not]; omega
    have d2 : decide (r.size ≤ i) = false := by rw [decide_eq_false_iff_not]; omega
    have q0 : (0 : Int) ≤ (i : Int) := by omega
    have q1 : (i : Int) < (r.size : Int) := by omega
    have HL := Lib.hid (fun w => rLetter_any (r[i]) w)
    rw [show isL (r[i]) = isL s[i] by rw [hc]] at HL
    have HC := Lib.hid hc
    have HG : Hid (wgt s[i] = if s[i] = 126 then 0 else if isL s[i] = true then 2 + (s[i].toNat : Int) else 300 + (s[i].toNat : Int)) := rfl
    have hlt := UInt8.toNat_lt (r[i])
    clear hg hr hz
    by_cases h1 : s[i] = 126
    · have HX := Lib.hid (show wt s i = 0 by rw [HW.out, HG.out, if_pos h1])
      have e1 : ((r[i].toNat : Int) == 126) = true := by rw [hc, h1]; rfl
      clear hc h1
      go_enter Tryz.func66, Tryz.ntmps66
      go_wp2_with fail
      go_ret
      exact ⟨by rw [HX.out]; rfl, rfl⟩
    · have e1 : ((r[i].toNat : Int) == 126) = false := by rw [hc]; exact ne_int (d := 126) h1
      cases h2 : isL s[i]
      · have HX := Lib.hid (show wt s i = 300 + (r[i].toNat : Int) by rw [HW.out, HG.out, if_neg h1, if_neg (by rw [h2]; simp), hc])
        rw [h2] at HL
        clear hc h1 h2
        go_enter Tryz.func66, Tryz.ntmps66
        go_wp2_with fail
        refine (HL.out _).mono ?_
        rintro e w' ⟨rfl, rfl⟩
        go_wp2_with fail
        go_ret
        exact ⟨by rw [HX.out]; rfl, rfl⟩
      · have HX := Lib.hid (show wt s i = 2 + (r[i].toNat : Int) by rw [HW.out, HG.out, if_neg h1, if_pos h2, hc])
        rw [h2] at HL
        clear hc h1 h2
        go_enter Tryz.func66, Tryz.ntmps66
        go_wp2_with fail
        refine (HL.out _).mono ?_
        rintro e w' ⟨rfl, rfl⟩
        go_wp2_with fail
        go_ret
        exact ⟨by rw [HX.out]; rfl, rfl⟩
  · have HX := Lib.hid (show wt s i = 1 by unfold wt; rw [dif_neg h])
    have d1 : decide ((i : Int) ≥ (r.size : Int)) = true := by rw [decide_eq_true_iff]; omega
    have d2 : decide (r.size ≤ i) = true := by rw [decide_eq_true_iff]; omega
    clear hg hr hz h
    go_enter Tryz.func66, Tryz.ntmps66
    go_wp2_with fail
    go_ret
    exact ⟨by rw [HX.out]; rfl, rfl⟩
/-- the bytes that split takes -/
def spP (wanted : Bool) (c : UInt8) : Bool := isD c == wanted
theorem spP_true : spP true = isD := by funext c; unfold spP; cases isD c <;> rfl
theorem spP_false : spP false = notD := by funext c; unfold spP notD; cases isD c <;> rfl
set_option maxRecDepth 100000 in
set_option maxHeartbeats 2000000 in
theorem rSplit_any (wanted : Bool) (l : BL) (w : World) (hl : l.length ≤ 100000) :
    Calls Tryz.prog 65 #[.string (bs l), .bool wanted] w fun e w' => e = .returned (.tuple #[.string (bs (l.takeWhile (spP wanted))), .string (bs (l.dropWhile (spP wanted)))]) ∧ ∃ m, w' = w.drewN m := by
  obtain ⟨r, hr, hg, hs, ht, hd⟩ := bs_facts l
  have HG := Lib.hid hg; have HS := Lib.hid hs; have HT := Lib.hid ht; have HD := Lib.hid hd
  have hsz : r.size ≤ 100000 := by omega
  rw [hr]
  clear hg hs ht hd hr
  have FIN := Lib.hid (show ∀ j : Nat, (∀ c ∈ l.take j, spP wanted c = true) → (∀ h : j < l.length, spP wanted l[j] = false) → r.extract 0 j = bs (l.takeWhile (spP wanted)) ∧ r.extract j r.size = bs (l.dropWhile (spP wanted)) by
    intro j h1 h2
    obtain ⟨e1, e2⟩ := tw_at h1 h2
    rw [HT.out, HD.out, e1, e2]; exact ⟨rfl, rfl⟩)
  go_enter Tryz.func65, Tryz.ntmps65
  go_wp2_with fail
  go_loop [6] (fun i => ∃ j : Nat, j ≤ r.size ∧ i = .int .i64 j ∧ Hid (∀ c ∈ l.take j, spP wanted c = true)) (fun i => r.size - (intOf i).toNat)
  case atStart => exact ⟨0, Nat.zero_le _, rfl, fun c hc => by simp at hc⟩
  case round =>
    obtain ⟨j, hj, rfl, HA⟩ := hrel
    by_cases hlt : j < r.size
    · have hjl : j < l.length := by have := HS.out; omega
      have hd : decide ((j : Int) < (r.size : Int)) = true := by simp; omega
      have q0 : (0 : Int) ≤ (j : Int) := by omega
      have q1 : (j : Int) < (r.size : Int) := by omega
      have q2 : (j : Int) ≤ (r.size : Int) := by omega
      have HC := Lib.hid (fun w => rDigit_any (r[j]) w)
      rw [show isD (r[j]) = isD l[j] by rw [HG.out j hlt hjl]] at HC
      have NXT := Lib.hid (fun h : spP wanted l[j] = true => all_succ hjl HA.out h)
      have NOT := Lib.hid (fun h : spP wanted l[j] = false => FIN.out j HA.out (fun _ => h))
      have HP : Hid (spP wanted l[j] = (isD l[j] == wanted)) := rfl
      generalize spP wanted l[j] = x at *
      generalize isD l[j] = d at *
      cases d <;> cases wanted
      case false.true =>
        have HX := Lib.hid (NOT.out HP.out)
        clear NXT NOT
        go_wp2_with fail
        refine (HC.out _).mono ?_
        rintro e w' ⟨rfl, rfl⟩
        go_wp2_with fail
        go_quiet (fail)
        go_wp2_with fail
        go_ret2
        exact ⟨by rw [← HX.out.1, ← HX.out.2]; rfl, _, rfl⟩
      case true.false =>
        have HX := Lib.hid (NOT.out HP.out)
        clear NXT NOT
        go_wp2_with fail
        refine (HC.out _).mono ?_
        rintro e w' ⟨rfl, rfl⟩
        go_wp2_with fail
        go_quiet (fail)
        go_wp2_with fail
        go_ret2
        exact ⟨by rw [← HX.out.1, ← HX.out.2]; rfl, _, rfl⟩
      all_goals
        have HX := Lib.hid (NXT.out HP.out)
        clear NXT NOT
        go_wp2_with fail
        refine (HC.out _).mono ?_
        rintro e w' ⟨rfl, rfl⟩
        go_wp2_with fail
        go_round
        case rel => exact ⟨j + 1, by omega, by go_num, HX.out⟩
        case measure => simp [intOf]; omega
    · obtain rfl : j = r.size := by omega
      have hd : decide ((r.size : Int) < (r.size : Int)) = false := by simp
      have q0 : (0 : Int) ≤ (r.size : Int) := by omega
      have q2 : (r.size : Int) ≤ (r.size : Int) := by omega
      have HX := Lib.hid (show r = bs (l.takeWhile (spP wanted)) ∧ ByteArray.empty = bs (l.dropWhile (spP wanted)) by
        have := FIN.out _ HA.out (fun h => by have := HS.out; omega)
        rwa [extract_fullV, extract_endV] at this)
      go_wp2_with fail
      go_quiet (fail)
      go_wp2_with fail
      go_ret2
      exact ⟨by rw [← HX.out.1, ← HX.out.2]; rfl, _, rfl⟩
/-- how two prefixes are ordered, from the i-th places on -/
def prcT (p q : BL) (i : Nat) : Int := prc (p.drop i) (q.drop i)
theorem prcT_step {p q : BL} {i : Nat} (h : i < p.length ∨ i < q.length) : prcT p q i = fst0 (sgn (wt p i - wt q i)) (prcT p q (i + 1)) := by
  unfold prcT wt
  by_cases h1 : i < p.length
  · rw [dif_pos h1, List.drop_eq_getElem_cons h1]
    by_cases h2 : i < q.length
    · rw [dif_pos h2, List.drop_eq_getElem_cons h2]; conv => lhs; unfold prc
    · rw [dif_neg h2, List.drop_of_length_le (by omega : q.length ≤ i), List.drop_of_length_le (by omega : q.length ≤ i + 1)]; conv => lhs; unfold prc
  · rw [dif_neg h1, List.drop_of_length_le (by omega : p.length ≤ i), List.drop_of_length_le (by omega : p.length ≤ i + 1)]
    have h2 : i < q.length := by omega
    rw [dif_pos h2, List.drop_eq_getElem_cons h2]; conv => lhs; unfold prc
theorem prcT_end {p q : BL} {i : Nat} (h1 : p.length ≤ i) (h2 : q.length ≤ i) : prcT p q i = 0 := by
  unfold prcT; rw [List.drop_of_length_le h1, List.drop_of_length_le h2]; unfold prc; rfl
theorem sgn_ne {z : Int} (h : z ≠ 0) : sgn z ≠ 0 := by unfold sgn; split <;> (try split) <;> omega
end Go.Proofs.YtceeilojcifgeaaGreatDoor
