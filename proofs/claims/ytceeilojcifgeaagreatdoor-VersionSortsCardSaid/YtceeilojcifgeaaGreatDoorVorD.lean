/-
  Versions, the reference: the walk of part (strings of at most 100000 bytes).
-/
import Derived.Test.YtceeilojcifgeaaGreatDoorVorC
namespace Go.Proofs.YtceeilojcifgeaaGreatDoor
open Go.RowKit

set_option maxRecDepth 100000 in
set_option maxHeartbeats 8000000 in
theorem rPart_any (a b : BL) (w : World) (ha : a.length ≤ 100000) (hb : b.length ≤ 100000) :
    Calls Tryz.prog 44 #[.string (bs a), .string (bs b)] w fun e w' => e = .returned (.int .i64 (parc a b)) ∧ ∃ m, w' = w.drewN m := by
  have HWT := Lib.hid (fun (s : BL) (i : Nat) (w : World) (hs : s.length ≤ 100000) (hi : i ≤ 100000) => rWeight_any s i w hs hi)
  have HSG := Lib.hid (fun n w => rSign_any n w)
  obtain ⟨R, hR⟩ : ∃ R, parc a b = R := ⟨_, rfl⟩
  have HR0 := Lib.hid hR
  rw [hR]
  clear hR
  go_enter Tryz.func44, Tryz.ntmps44
  go_wp2_with fail
  go_loopw [0, 1] (fun s t wr => ∃ (a' b' : BL) (m : Nat), s = .string (bs a') ∧ t = .string (bs b') ∧ a'.length ≤ 100000 ∧ b'.length ≤ 100000 ∧ Hid (parc a' b' = R ∧ wr = w.drewN m)) (fun s t _ => (match s with | .string r => r.size | _ => 0) + (match t with | .string r => r.size | _ => 0))
  case atStart => exact ⟨a, b, 0, rfl, rfl, ha, hb, HR0.out, rfl⟩
  case round =>
    obtain ⟨a', b', m, rfl, rfl, hal, hbl, HX⟩ := hrel
    have HP := Lib.hid HX.out.1
    have HW := Lib.hid HX.out.2
    have ea := bs_empE a'; have eb := bs_empE b'
    by_cases h0 : a' = [] ∧ b' = []
    · obtain ⟨h1, h2⟩ := h0
      have HZ := Lib.hid (show R = 0 by rw [← HP.out, h1, h2]; exact parc_nil)
      subst h1 h2
      have e0 : bs [] = ⟨#[]⟩ := rfl
      rw [e0] at ea eb ⊢
      clear e0 ea eb
      go_wp2_with fail
      go_ret
      exact ⟨by rw [HZ.out]; rfl, m, HW.out⟩
    · have HST := Lib.hid (show R = fst0 (prc (a'.takeWhile notD) (b'.takeWhile notD)) (fst0 (nord (dig6 a') (dig6 b')) (parc (rest6 a') (rest6 b'))) by rw [← HP.out]; exact parc_step a' b')
      have HLT := Lib.hid (show (rest6 a').length + (rest6 b').length < a'.length + b'.length by
        have h1 := rest6_le a'; have h2 := rest6_le b'
        by_cases ha0 : a' = []
        · have hb0 : b' ≠ [] := fun e => h0 ⟨ha0, e⟩
          have := rest6_len b' hb0; omega
        · have := rest6_len a' ha0; omega)
      have hcond : ((bs a').toList.isEmpty = false) ∨ ((bs a').toList.isEmpty = true ∧ (bs b').toList.isEmpty = false) := by
        rw [Lib.toList_data, Lib.toList_data, bs_data, bs_data]
        by_cases ha0 : a' = []
        · have hb0 : b' ≠ [] := fun e => h0 ⟨ha0, e⟩
          exact .inr ⟨by rw [ha0]; rfl, by rw [List.isEmpty_eq_false_iff]; exact hb0⟩
        · exact .inl (by rw [List.isEmpty_eq_false_iff]; exact ha0)
      have t1 := tw_len notD a'; have t2 := tw_len notD b'
      have t3 : (dig6 a').length + (rest6 a').length = (a'.dropWhile notD).length := tw_len isD _
      have t4 : (dig6 b').length + (rest6 b').length = (b'.dropWhile notD).length := tw_len isD _
      have S1 := Lib.hid (fun w => rSplit_any false a' w hal)
      have S2 := Lib.hid (fun w => rSplit_any false b' w hbl)
      have S3 := Lib.hid (fun w => rSplit_any true (a'.dropWhile notD) w (by omega))
      have S4 := Lib.hid (fun w => rSplit_any true (b'.dropWhile notD) w (by omega))
      rw [spP_false] at S1 S2
      rw [spP_true, show (a'.dropWhile notD).takeWhile isD = dig6 a' from rfl, show (a'.dropWhile notD).dropWhile isD = rest6 a' from rfl] at S3
      rw [spP_true, show (b'.dropWhile notD).takeWhile isD = dig6 b' from rfl, show (b'.dropWhile notD).dropWhile isD = rest6 b' from rfl] at S4
      have HOR := Lib.hid (fun w => rOrder_any (dig6 a') (dig6 b') w (by omega) (by omega))
      have hr1 : (rest6 a').length ≤ 100000 := by omega
      have hr2 : (rest6 b').length ≤ 100000 := by omega
      have HSA := Lib.hid (bs_size a'); have HSB := Lib.hid (bs_size b')
      have HPI := Lib.hid (show R = fst0 (prcT (a'.takeWhile notD) (b'.takeWhile notD) 0) (fst0 (nord (dig6 a') (dig6 b')) (parc (rest6 a') (rest6 b'))) from HST.out)
      have hx1 : (a'.takeWhile notD).length ≤ 100000 := by omega
      have hx2 : (b'.takeWhile notD).length ≤ 100000 := by omega
      clear t1 t2 t3 t4 h0 ea eb HST
      generalize bs a' = sa at *
      generalize bs b' = sb at *
      generalize a'.takeWhile notD = p at *
      generalize b'.takeWhile notD = q at *
      have hps := bs_size p; have hqs := bs_size q
      have HPS := Lib.hid hps; have HQS := Lib.hid hqs
      have HWP := Lib.hid (fun i w hi => HWT.out p i w hx1 hi)
      have HWQ := Lib.hid (fun i w hi => HWT.out q i w hx2 hi)
      clear hps hqs
      have hp1 : (bs p).size ≤ 100000 := by rw [HPS.out]; exact hx1
      have hq1 : (bs q).size ≤ 100000 := by rw [HQS.out]; exact hx2
      generalize bs p = sp at *
      generalize bs q = sq at *
      generalize bs (a'.dropWhile notD) = sda at *
      generalize bs (b'.dropWhile notD) = sdb at *
      generalize bs (dig6 a') = dga at *
      generalize bs (dig6 b') = dgb at *
      generalize nord (dig6 a') (dig6 b') = no at *
      obtain ⟨X, hXd⟩ : ∃ X, fst0 no (parc (rest6 a') (rest6 b')) = X := ⟨_, rfl⟩
      have HXD := Lib.hid hXd
      rw [hXd] at HPI
      clear hXd
      rcases hcond with c1 | ⟨c1, c2⟩
      all_goals
        go_wp2_with fail
        refine (S1.out _).mono ?_
        rintro e wa ⟨rfl, m1, hwa⟩
        have HWA := Lib.hid (show wa = w.drewN (m + m1) by rw [hwa, HW.out, World.drewN_drewN])
        clear hwa
        go_wp2_with fail
        refine (S2.out _).mono ?_
        rintro e wb ⟨rfl, m2, hwb⟩
        have HWB := Lib.hid (show wb = w.drewN (m + m1 + m2) by rw [hwb, HWA.out, World.drewN_drewN])
        clear hwb
        go_wp2_with fail
        go_loop [9] (fun i => ∃ j : Nat, j ≤ 100000 ∧ (j ≤ sp.size ∨ j ≤ sq.size) ∧ i = .int .i64 j ∧ Hid (R = fst0 (prcT p q j) X)) (fun i => sp.size + sq.size - (intOf i).toNat)
        case atStart => exact ⟨0, by omega, by omega, rfl, HPI.out⟩
        case round =>
          obtain ⟨j, hj, hj2, rfl, HA⟩ := hrel
          by_cases hlt : j < sp.size ∨ j < sq.size
          · have hl2 : j < p.length ∨ j < q.length := by rw [← HPS.out, ← HQS.out]; exact hlt
            have HS2 := Lib.hid (show R = fst0 (fst0 (sgn (wt p j - wt q j)) (prcT p q (j + 1))) X by rw [HA.out, prcT_step hl2])
            have HA1 := Lib.hid (fun w => HWP.out j w hj); have HA2 := Lib.hid (fun w => HWQ.out j w hj)
            have r1 := wt_rng p j; have r2 := wt_rng q j
            generalize wt p j = u at *
            generalize wt q j = v at *
            obtain ⟨r1a, r1b⟩ := r1
            obtain ⟨r2a, r2b⟩ := r2
            have hcs : (decide (j < sp.size) = true) ∨ (decide (j < sp.size) = false ∧ decide (j < sq.size) = true) := by
              by_cases h : j < sp.size
              · exact .inl (by simpa using h)
              · exact .inr ⟨by simpa using h, by have := hlt.resolve_left h; simpa using this⟩
            have hjn : j + 1 ≤ 100000 := by omega
            have hjm : (j + 1 ≤ sp.size ∨ j + 1 ≤ sq.size) := by omega
            have hmea : sp.size + sq.size - (j + 1) < sp.size + sq.size - j := by omega
            clear hlt hl2
            by_cases hz : u - v = 0
            · have HN := Lib.hid (show R = fst0 (prcT p q (j + 1)) X by rw [HS2.out, hz]; rfl)
              have e1 : (u - v != 0) = false := by rw [bne_eq_false_iff_eq]; exact hz
              have e2 : u = v := by omega
              subst e2
              clear hz e1
              rcases hcs with d1 | ⟨d1, d2⟩
              all_goals
                go_wp2_with fail
                refine (HA1.out _).mono ?_
                rintro e w' ⟨rfl, rfl⟩
                go_wp2_with fail
                refine (HA2.out _).mono ?_
                rintro e w' ⟨rfl, rfl⟩
                go_wp2_with fail
                go_round
                case rel => exact ⟨j + 1, hjn, hjm, by go_num, HN.out⟩
                case measure => simp only [intOf]; first | omega | (simp; omega)
            · have HN := Lib.hid (show R = sgn (u - v) by rw [HS2.out, fst0_ne (sgn_ne hz), fst0_ne (sgn_ne hz)])
              have e1 : (u - v != 0) = true := by rw [bne_iff_ne]; exact hz
              have HZ := Lib.hid hz
              clear hz
              rcases hcs with d1 | ⟨d1, d2⟩
              all_goals
                go_wp2_with fail
                refine (HA1.out _).mono ?_
                rintro e w' ⟨rfl, rfl⟩
                go_wp2_with fail
                refine (HA2.out _).mono ?_
                rintro e w' ⟨rfl, rfl⟩
                go_wp2_with fail
                refine (HSG.out _ _).mono ?_
                rintro e w' ⟨rfl, rfl⟩
                go_wp2_with fail
                go_ret
                exact ⟨by rw [HN.out]; rfl, _, HWB.out⟩
          · have HRX := Lib.hid (show R = fst0 no (parc (rest6 a') (rest6 b')) by
              rw [HA.out, prcT_end (by rw [← HPS.out]; omega) (by rw [← HQS.out]; omega), HXD.out]; rfl)
            have d1 : decide (j < sp.size) = false := by rw [decide_eq_false_iff_not]; omega
            have d2 : decide (j < sq.size) = false := by rw [decide_eq_false_iff_not]; omega
            clear hlt
            by_cases hz : no = 0
            · have HN := Lib.hid (show parc (rest6 a') (rest6 b') = R by rw [HRX.out, hz]; rfl)
              subst hz
              go_wp2_with fail
              refine (S3.out _).mono ?_
              rintro e wc ⟨rfl, m3, hwc⟩
              have HWC := Lib.hid (show wc = w.drewN (m + m1 + m2 + m3) by rw [hwc, HWB.out, World.drewN_drewN])
              clear hwc
              go_wp2_with fail
              refine (S4.out _).mono ?_
              rintro e wd ⟨rfl, m4, hwd⟩
              have HWD := Lib.hid (show wd = w.drewN (m + m1 + m2 + m3 + m4) by rw [hwd, HWC.out, World.drewN_drewN])
              clear hwd
              go_wp2_with fail
              refine (HOR.out _).mono ?_
              rintro e w' ⟨rfl, rfl⟩
              go_wp2_with fail
              go_roundw
              case rel => exact ⟨rest6 a', rest6 b', _, rfl, rfl, hr1, hr2, HN.out, HWD.out⟩
              case measure =>
                show (bs (rest6 a')).size + (bs (rest6 b')).size < sa.size + sb.size
                rw [bs_size, bs_size, HSA.out, HSB.out]; exact HLT.out
            · have HN := Lib.hid (show R = no by rw [HRX.out, fst0_ne hz])
              have e1 : (no != 0) = true := by rw [bne_iff_ne]; exact hz
              clear hz
              go_wp2_with fail
              refine (S3.out _).mono ?_
              rintro e wc ⟨rfl, m3, hwc⟩
              have HWC := Lib.hid (show wc = w.drewN (m + m1 + m2 + m3) by rw [hwc, HWB.out, World.drewN_drewN])
              clear hwc
              go_wp2_with fail
              refine (S4.out _).mono ?_
              rintro e wd ⟨rfl, m4, hwd⟩
              have HWD := Lib.hid (show wd = w.drewN (m + m1 + m2 + m3 + m4) by rw [hwd, HWC.out, World.drewN_drewN])
              clear hwd
              go_wp2_with fail
              refine (HOR.out _).mono ?_
              rintro e w' ⟨rfl, rfl⟩
              go_wp2_with fail
              go_ret
              exact ⟨by rw [HN.out]; rfl, _, HWD.out⟩
end Go.Proofs.YtceeilojcifgeaaGreatDoor
