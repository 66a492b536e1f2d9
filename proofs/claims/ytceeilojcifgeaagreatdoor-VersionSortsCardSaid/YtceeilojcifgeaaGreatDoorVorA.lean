/-
  Versions, the reference: the walks of order, identifier and sign (strings of at most 100000 bytes).
-/
import Derived.Test.YtceeilojcifgeaaGreatDoorVrfE
namespace Go.Proofs.YtceeilojcifgeaaGreatDoor
open Go.RowKit

theorem zs_stop {a : BL} (h : a = [] ∨ ∃ c r, a = c :: r ∧ c ≠ 48) : zs a = a := by
  rcases h with rfl | ⟨c, r, rfl, hc⟩
  · rfl
  · unfold zs; rw [List.dropWhile_cons, if_neg (by simp [hc])]
theorem zs_idem (a : BL) : zs (zs a) = zs a := by
  apply zs_stop
  cases h : zs a with
  | nil => exact .inl rfl
  | cons c r => exact .inr ⟨c, r, rfl, fun e => by have := dw_head (· == 48) a c r h; rw [e] at this; cases this⟩
/-- what a round of the loop over the zeros meets -/
theorem zs_round (a : BL) : ∃ r : ByteArray, bs a = r ∧ r.size = a.length ∧ ((r.size = 0 ∧ zs a = a) ∨ (∃ h : 0 < r.size, ((r[0].toNat : Int) == 48) = false ∧ zs a = a) ∨ (∃ h : 0 < r.size, ((r[0].toNat : Int) == 48) = true ∧ ∃ a', r.extract 1 r.size = bs a' ∧ zs a' = zs a ∧ a'.length < a.length)) := by
  obtain ⟨r, hr, hg, hs, -, hd⟩ := bs_facts a
  refine ⟨r, hr, hs, ?_⟩
  cases a with
  | nil => exact .inl ⟨by rw [hs]; rfl, rfl⟩
  | cons c a =>
    have h0 : 0 < r.size := by rw [hs]; simp
    have hc := hg 0 h0 (by simp)
    by_cases h : c = 48
    · refine .inr (.inr ⟨h0, ?_, a, hd 1, ?_, by simp⟩)
      · rw [hc]; subst h; rfl
      · subst h; unfold zs; rw [List.dropWhile_cons, if_pos (by rfl)]
    · refine .inr (.inl ⟨h0, ?_, zs_stop (.inr ⟨c, a, rfl, h⟩)⟩)
      rw [hc]; exact ne_int (d := 48) h
set_option maxRecDepth 100000 in
set_option maxHeartbeats 4000000 in
theorem rOrder_any (a b : BL) (w : World) (ha : a.length ≤ 100000) (hb : b.length ≤ 100000) :
    Calls Tryz.prog 41 #[.string (bs a), .string (bs b)] w fun e w' => e = .returned (.int .i64 (nord a b)) ∧ w = w' := by
  have HN : Hid (nord a b = if (zs a).length < (zs b).length then -1 else if (zs b).length < (zs a).length then 1 else lx (zs a) (zs b)) := rfl
  go_enter Tryz.func41, Tryz.ntmps41
  go_wp2_with fail
  go_loop [0] (fun s => ∃ a' : BL, s = .string (bs a') ∧ a'.length ≤ 100000 ∧ Hid (zs a' = zs a)) (fun s => match s with | .string r => r.size | _ => 0)
  case atStart => exact ⟨a, rfl, ha, rfl⟩
  case round =>
    obtain ⟨a', rfl, hal, HA⟩ := hrel
    obtain ⟨r, hr, hs, hcs⟩ := zs_round a'
    have HR := Lib.hid hr
    have HS := Lib.hid hs
    have hrl : r.size ≤ 100000 := by omega
    rw [hr]
    clear hr hs
    rcases hcs with ⟨h0, hz⟩ | ⟨h0, h1, hz⟩ | ⟨h0, h1, a2, hx, hz, hlen⟩
    focus
      have HZ := Lib.hid (show zs a = a' by rw [← HA.out, hz])
      have hd : decide (0 < r.size) = false := by rw [decide_eq_false_iff_not]; omega
      clear hz h0
      go_wp2_with fail
    rotate_left 1
    focus
      have HZ := Lib.hid (show zs a = a' by rw [← HA.out, hz])
      have p0 : (0 : Int) < (r.size : Int) := by omega
      clear hz
      go_wp2_with fail
    rotate_left 1
    focus
      have HX := Lib.hid hx
      have HZ := Lib.hid (show zs a2 = zs a by rw [hz, HA.out])
      have p0 : (0 : Int) < (r.size : Int) := by omega
      have q0 : (0 : Int) ≤ (1 : Int) := by omega
      have q1 : (1 : Int) ≤ (r.size : Int) := by omega
      have HL := Lib.hid hlen
      clear hx hz hlen
      go_wp2_with fail
      go_round
      case rel => exact ⟨a2, by rw [← HX.out], by have := HL.out; omega, HZ.out⟩
      case measure => rw [HX.out]; show (bs a2).size < r.size; rw [bs_size, HS.out]; exact HL.out
    all_goals
      have HRA := Lib.hid (show bs (zs a) = r by rw [HZ.out]; exact HR.out)
      have HRS := Lib.hid (show r.size = (zs a).length by rw [HZ.out]; exact HS.out)
      clear HA HR HS HZ hal
      go_loop [1] (fun s => ∃ b' : BL, s = .string (bs b') ∧ b'.length ≤ 100000 ∧ Hid (zs b' = zs b)) (fun s => match s with | .string r => r.size | _ => 0)
      case atStart => exact ⟨b, rfl, hb, rfl⟩
      case round =>
        obtain ⟨b', rfl, hbl, HB⟩ := hrel
        obtain ⟨t, ht, hs, hcs⟩ := zs_round b'
        have HT := Lib.hid ht
        have HTS := Lib.hid hs
        have htl : t.size ≤ 100000 := by omega
        rw [ht]
        clear ht hs
        have fin : zs b = b' → Hid (nord a b = -1 ∧ decide (r.size < t.size) = true ∧ ((r.size : Int) != (t.size : Int)) = true) ∨ Hid (nord a b = 1 ∧ decide (r.size < t.size) = false ∧ ((r.size : Int) != (t.size : Int)) = true) ∨ (r.size = t.size ∧ ∀ w, Calls Tryz.prog 21 #[.string r, .string t] w fun e w' => e = .returned (.int .i64 (nord a b)) ∧ w = w') := by
          intro hz
          have e1 := HRS.out
          have e2 : t.size = (zs b).length := by rw [hz]; exact HTS.out
          have e3 := HN.out
          by_cases h1 : (zs a).length < (zs b).length
          · rw [if_pos h1] at e3
            exact .inl ⟨e3, by simp; omega, by rw [bne_iff_ne]; omega⟩
          · rw [if_neg h1] at e3
            by_cases h2 : (zs b).length < (zs a).length
            · rw [if_pos h2] at e3
              exact .inr (.inl ⟨e3, by simp; omega, by rw [bne_iff_ne]; omega⟩)
            · rw [if_neg h2] at e3
              refine .inr (.inr ⟨by omega, fun w => ?_⟩)
              have := strCompare_any (zs a) (zs b) w
              rw [HRA.out, hz, HT.out, ← hz, ← e3] at this
              exact this
        have FIN := Lib.hid fin
        clear fin
        rcases hcs with ⟨h0, hz⟩ | ⟨h0, h1, hz⟩ | ⟨h0, h1, b2, hx, hz, hlen⟩
        focus
          have FN := Lib.hid (FIN.out (show zs b = b' by rw [← HB.out, hz]))
          have hd : decide (0 < t.size) = false := by rw [decide_eq_false_iff_not]; omega
          clear hz h0 FIN
        rotate_left 1
        focus
          have FN := Lib.hid (FIN.out (show zs b = b' by rw [← HB.out, hz]))
          have p0 : (0 : Int) < (t.size : Int) := by omega
          clear hz FIN
        rotate_left 1
        focus
          have HX := Lib.hid hx
          have HZ := Lib.hid (show zs b2 = zs b by rw [hz, HB.out])
          have p0 : (0 : Int) < (t.size : Int) := by omega
          have q0 : (0 : Int) ≤ (1 : Int) := by omega
          have q1 : (1 : Int) ≤ (t.size : Int) := by omega
          have HL := Lib.hid hlen
          clear hx hz hlen FIN
          go_wp2_with fail
          go_round
          case rel => exact ⟨b2, by rw [← HX.out], by have := HL.out; omega, HZ.out⟩
          case measure => rw [HX.out]; show (bs b2).size < t.size; rw [bs_size, HTS.out]; exact HL.out
        all_goals
          rcases FN.out with hf | hf | ⟨hse, hC⟩
          · have HX := Lib.hid hf.out.1
            have d1 := hf.out.2.1
            have d2 := hf.out.2.2
            clear hf FN
            go_wp2_with fail
            go_ret
            exact ⟨by rw [HX.out]; rfl, rfl⟩
          · have HX := Lib.hid hf.out.1
            have d1 := hf.out.2.1
            have d2 := hf.out.2.2
            clear hf FN
            go_wp2_with fail
            go_ret
            exact ⟨by rw [HX.out]; rfl, rfl⟩
          · have HC := Lib.hid hC
            have d2 : ((r.size : Int) != (t.size : Int)) = false := by rw [bne_eq_false_iff_eq]; omega
            clear hC FN hse
            go_wp2_with fail
            refine (HC.out _).mono ?_
            rintro e w' ⟨rfl, rfl⟩
            go_wp2_with fail
            go_ret
            exact ⟨rfl, rfl⟩
set_option maxRecDepth 100000 in
set_option maxHeartbeats 1000000 in
theorem rIdent_any (a b : BL) (w : World) (ha : a.length ≤ 100000) (hb : b.length ≤ 100000) :
    Calls Tryz.prog 42 #[.string (bs a), .string (bs b)] w fun e w' => e = .returned (.int .i64 (idc a b)) ∧ w = w' := by
  have HE : Hid (idc a b = if digs a = true then (if digs b = true then nord a b else -1) else if digs b = true then 1 else lx a b) := rfl
  have HDA := Lib.hid (fun w => rDigits_any a w ha)
  have HDB := Lib.hid (fun w => rDigits_any b w hb)
  have HO := Lib.hid (fun w => rOrder_any a b w ha hb)
  have HC := Lib.hid (fun w => strCompare_any a b w)
  generalize digs a = x at *
  generalize digs b = y at *
  generalize bs a = sa at *
  generalize bs b = sb at *
  clear ha hb
  cases x
  · cases y
    · have HX := Lib.hid (show idc a b = lx a b from HE.out)
      go_enter Tryz.func42, Tryz.ntmps42
      go_wp2_with fail
      refine (HDA.out _).mono ?_
      rintro e w' ⟨rfl, rfl⟩
      go_wp2_with fail
      refine (HDA.out _).mono ?_
      rintro e w' ⟨rfl, rfl⟩
      go_wp2_with fail
      refine (HDB.out _).mono ?_
      rintro e w' ⟨rfl, rfl⟩
      go_wp2_with fail
      refine (HC.out _).mono ?_
      rintro e w' ⟨rfl, rfl⟩
      go_wp2_with fail
      go_ret
      exact ⟨by rw [HX.out]; rfl, rfl⟩
    · have HX := Lib.hid (show idc a b = 1 from HE.out)
      go_enter Tryz.func42, Tryz.ntmps42
      go_wp2_with fail
      refine (HDA.out _).mono ?_
      rintro e w' ⟨rfl, rfl⟩
      go_wp2_with fail
      refine (HDA.out _).mono ?_
      rintro e w' ⟨rfl, rfl⟩
      go_wp2_with fail
      refine (HDB.out _).mono ?_
      rintro e w' ⟨rfl, rfl⟩
      go_wp2_with fail
      go_ret
      exact ⟨by rw [HX.out]; rfl, rfl⟩
  · cases y
    · have HX := Lib.hid (show idc a b = -1 from HE.out)
      go_enter Tryz.func42, Tryz.ntmps42
      go_wp2_with fail
      refine (HDA.out _).mono ?_
      rintro e w' ⟨rfl, rfl⟩
      go_wp2_with fail
      refine (HDB.out _).mono ?_
      rintro e w' ⟨rfl, rfl⟩
      go_wp2_with fail
      refine (HDA.out _).mono ?_
      rintro e w' ⟨rfl, rfl⟩
      go_wp2_with fail
      go_ret
      exact ⟨by rw [HX.out]; rfl, rfl⟩
    · have HX := Lib.hid (show idc a b = nord a b from HE.out)
      go_enter Tryz.func42, Tryz.ntmps42
      go_wp2_with fail
      refine (HDA.out _).mono ?_
      rintro e w' ⟨rfl, rfl⟩
      go_wp2_with fail
      refine (HDB.out _).mono ?_
      rintro e w' ⟨rfl, rfl⟩
      go_wp2_with fail
      refine (HO.out _).mono ?_
      rintro e w' ⟨rfl, rfl⟩
      go_wp2_with fail
      go_ret
      exact ⟨by rw [HX.out]; rfl, rfl⟩
set_option maxRecDepth 100000 in
set_option maxHeartbeats 400000 in
theorem rSign_any (n : Int) (w : World) :
    Calls Tryz.prog 43 #[.int .i64 n] w fun e w' => e = .returned (.int .i64 (sgn n)) ∧ w = w' := by
  have HE : Hid (sgn n = if n < 0 then -1 else if n > 0 then 1 else 0) := rfl
  rcases Int.lt_trichotomy n 0 with h | h | h
  · have HX := Lib.hid (show sgn n = -1 by rw [HE.out, if_pos h])
    have d1 : decide (n < 0) = true := by simpa using h
    clear h
    go_enter Tryz.func43, Tryz.ntmps43
    go_wp2_with fail
    go_ret
    exact ⟨by rw [HX.out]; rfl, rfl⟩
  · subst h
    go_enter Tryz.func43, Tryz.ntmps43
    go_wp2_with fail
    go_ret
    exact ⟨rfl, rfl⟩
  · have HX := Lib.hid (show sgn n = 1 by rw [HE.out, if_neg (by omega), if_pos h])
    have d1 : decide (n < 0) = false := by simp; omega
    have d2 : decide (n > 0) = true := by simpa using h
    clear h
    go_enter Tryz.func43, Tryz.ntmps43
    go_wp2_with fail
    go_ret
    exact ⟨by rw [HX.out]; rfl, rfl⟩
end Go.Proofs.YtceeilojcifgeaaGreatDoor
