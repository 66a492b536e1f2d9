/-
  Versions, the reference: the walk of bySemver (strings of at most 100000 bytes).
-/
import Derived.Test.YtceeilojcifgeaaGreatDoorVorA
import Derived.Test.YtceeilojcifgeaaGreatDoorGe
import Derived.Test.YtceeilojcifgeaaGreatDoorLawVNu
namespace Go.Proofs.YtceeilojcifgeaaGreatDoor
open Go.RowKit

theorem same_sym {F : FuncId} {args : Array Value} {w : World} {v : Value} (h : Calls Tryz.prog F args w fun e w' => e = .returned v ∧ w = w') : Calls Tryz.prog F args w fun e w' => e = .returned v ∧ w' = w := h.mono fun _ _ ⟨a, b⟩ => ⟨a, b.symm⟩
theorem rowS_val {B : Nat} {w : World} {v : Value} {ls : List BL} (h : RowS B w v ls) : (v = .slice none 0 0 ∧ ls = []) ∨ ∃ g, v = .slice (some ⟨g, 0, none⟩) ls.length ls.length ∧ ∀ i, ∀ h : i < ls.length, w.cell? ⟨g, i, none⟩ = some (.string (bs ls[i])) := by
  rcases h with h | ⟨g, h1, _, h2⟩
  · exact .inl h
  · exact .inr ⟨g, h1, fun i hi => row_cell h2 i hi⟩
theorem rowS_keep {B : Nat} {w w' : World} {v : Value} {ls : List BL} (h : RowS B w v ls) (hb : Below w.heap.size w w') : RowS B w' v ls := by
  rcases h with h | ⟨g, h1, h2, h3⟩
  · exact .inl h
  · exact .inr ⟨g, h1, h2, row_keep h3 hb⟩
/-- how prereleases are ordered, from the j-th identifiers on -/
def idsT (p q : List BL) (j : Nat) : Int := idsc (p.drop j) (q.drop j)
theorem idsT_step {p q : List BL} {j : Nat} (h1 : j < p.length) (h2 : j < q.length) : idsT p q j = fst0 (idc p[j] q[j]) (idsT p q (j + 1)) := by
  unfold idsT; rw [List.drop_eq_getElem_cons h1, List.drop_eq_getElem_cons h2]
  conv => lhs; unfold idsc
theorem idsT_end {p q : List BL} {j : Nat} (hp : j ≤ p.length) (hq : j ≤ q.length) (h : ¬ (j < p.length ∧ j < q.length)) : idsT p q j = sgn ((p.length : Int) - q.length) := by
  unfold idsT
  by_cases h1 : j < p.length
  · have h2 : q.length = j := by omega
    rw [List.drop_eq_getElem_cons h1, List.drop_of_length_le (by omega : q.length ≤ j)]
    unfold idsc sgn; rw [if_neg (by omega), if_pos (by omega)]
  · have h1' : p.length = j := by omega
    rw [List.drop_of_length_le (by omega : p.length ≤ j)]
    by_cases h2 : j < q.length
    · rw [List.drop_eq_getElem_cons h2]
      unfold idsc sgn; rw [if_pos (by omega)]
    · rw [List.drop_of_length_le (by omega : q.length ≤ j)]
      have : (p.length : Int) - q.length = 0 := by omega
      rw [this]; unfold idsc; rfl
theorem idc_rng (a b : BL) : idc a b = -1 ∨ idc a b = 0 ∨ idc a b = 1 := by
  unfold idc; split
  · split
    · exact nord_rng a b
    · exact .inl rfl
  · split
    · exact .inr (.inr rfl)
    · exact lx_rng a b
/-- the first k comparisons are 0 -/
def At3 (k : Nat) (n0 n1 n2 : Int) : Prop := (k = 0) ∨ (k = 1 ∧ n0 = 0) ∨ (k = 2 ∧ n0 = 0 ∧ n1 = 0) ∨ (k = 3 ∧ n0 = 0 ∧ n1 = 0 ∧ n2 = 0)
set_option maxRecDepth 100000 in
set_option maxHeartbeats 8000000 in
theorem rBySemver_any (a b : BL) (w : World) (ha : a.length ≤ 100000) (hb : b.length ≤ 100000) (x0 x1 x2 y0 y1 y2 : BL) (p q : List BL)
    (hsa : semR a = some ([x0, x1, x2], p)) (hsb : semR b = some ([y0, y1, y2], q)) (hx : ∀ l ∈ x0 :: x1 :: x2 :: y0 :: y1 :: y2 :: (p ++ q), l.length ≤ 100000) (hpl : p.length ≤ 100000 ∧ q.length ≤ 100000) :
    Calls Tryz.prog 25 #[.string (bs a), .string (bs b)] w fun e w' => e = .returned (.int .i64 (semc x0 x1 x2 p y0 y1 y2 q)) ∧ Below w.heap.size w w' := by
  have H1 := Lib.hid (fun w => rSemver_any a w ha)
  have H2 := Lib.hid (fun w => rSemver_any b w hb)
  rw [hsa] at H1; rw [hsb] at H2
  have HO0 := Lib.hid (fun w => same_sym (rOrder_any x0 y0 w (hx _ (by simp)) (hx _ (by simp))))
  have HO1 := Lib.hid (fun w => same_sym (rOrder_any x1 y1 w (hx _ (by simp)) (hx _ (by simp))))
  have HO2 := Lib.hid (fun w => same_sym (rOrder_any x2 y2 w (hx _ (by simp)) (hx _ (by simp))))
  have HID := Lib.hid (fun j (h1 : j < p.length) (h2 : j < q.length) w => same_sym (rIdent_any p[j] q[j] w (hx _ (by simp)) (hx _ (by simp))))
  have HSG := Lib.hid (fun n w => rSign_any n w)
  have HE : Hid (semc x0 x1 x2 p y0 y1 y2 q = fst0 (nord x0 y0) (fst0 (nord x1 y1) (fst0 (nord x2 y2) (prec p q)))) := rfl
  obtain ⟨R, hR⟩ : ∃ R, semc x0 x1 x2 p y0 y1 y2 q = R := ⟨_, rfl⟩
  rw [hR] at HE ⊢
  clear hR
  obtain ⟨hp1, hq1⟩ := hpl
  clear hsa hsb hx ha hb
  go_enter Tryz.func25, Tryz.ntmps25
  go_wp2_with fail
  refine (H1.out _).mono ?_
  rintro e wa hp
  obtain ⟨v1, u1, rfl, rv1, ru1, b1⟩ := PostS.some hp
  have RV1 := Lib.hid rv1; have RU1 := Lib.hid ru1; have B1 := Lib.hid b1; clear rv1 ru1 b1 hp
  go_wp2_with fail
  refine (H2.out _).mono ?_
  rintro e wb hp
  obtain ⟨v2, u2, rfl, rv2, ru2, b2⟩ := PostS.some hp
  have RV2 := Lib.hid rv2; have RU2 := Lib.hid ru2
  have RV1b := Lib.hid (rowS_keep RV1.out b2); have RU1b := Lib.hid (rowS_keep RU1.out b2)
  have BB := Lib.hid (nextB B1.out b2)
  clear rv2 ru2 b2 hp RV1 RU1 B1
  obtain ⟨-, hno⟩ | ⟨gx, rfl, hcx⟩ := rowS_val RV1b.out
  · cases hno
  obtain ⟨-, hno⟩ | ⟨gy, rfl, hcy⟩ := rowS_val RV2.out
  · cases hno
  have x0c := hcx 0 (by simp); have x1c := hcx 1 (by simp); have x2c := hcx 2 (by simp)
  have y0c := hcy 0 (by simp); have y1c := hcy 1 (by simp); have y2c := hcy 2 (by simp)
  simp only [List.getElem_cons_zero, List.getElem_cons_succ, List.length_cons, List.length_nil, Nat.zero_add, Nat.reduceAdd] at x0c x1c x2c y0c y1c y2c ⊢
  clear hcx hcy
  generalize bs x0 = s0 at *
  generalize bs x1 = s1 at *
  generalize bs x2 = s2 at *
  generalize bs y0 = t0 at *
  generalize bs y1 = t1 at *
  generalize bs y2 = t2 at *
  have RG0 := nord_rng x0 y0; have RG1 := nord_rng x1 y1; have RG2 := nord_rng x2 y2
  generalize nord x0 y0 = n0 at *
  generalize nord x1 y1 = n1 at *
  generalize nord x2 y2 = n2 at *
  go_wp2_with fail
  go_loopw [11] (fun i wr => ∃ (k m : Nat), k ≤ 3 ∧ i = .int .i64 k ∧ Hid (wr = wb.drewN m) ∧ Hid (At3 k n0 n1 n2)) (fun i _ => 3 - (intOf i).toNat)
  case atStart => exact ⟨0, 0, by omega, rfl, rfl, .inl rfl⟩
  case round =>
    obtain ⟨k, m, hk, rfl, HM, HK⟩ := hrel
    have HBE := Lib.hid (show Below w.heap.size w wr by rw [HM.out]; exact below_drewNV2 BB.out m)
    have z : ∀ a : Addr, wr.cell? a = wb.cell? a := fun a => by rw [HM.out]; rfl
    have a0 := (z _).trans x0c; have a1 := (z _).trans x1c; have a2 := (z _).trans x2c
    have c0 := (z _).trans y0c; have c1 := (z _).trans y1c; have c2 := (z _).trans y2c
    have RU1c := Lib.hid (show RowS w.heap.size wr u1 p by rw [HM.out]; exact RU1b.out)
    have RU2c := Lib.hid (show RowS wa.heap.size wr u2 q by rw [HM.out]; exact RU2.out)
    clear z
    have HMM := Lib.hid (show ∀ n', wr.drewN n' = wb.drewN (m + n') by intro n'; rw [HM.out, World.drewN_drewN])
    rcases HK.out with hk0 | ⟨hk0, e0⟩ | ⟨hk0, e0, e1⟩ | ⟨hk0, e0, e1, e2⟩
    · subst hk0
      rcases RG0 with rfl | rfl | rfl
      · skip
        have HX := Lib.hid (show R = -1 from HE.out)
        go_wp2_with fail
        go_quiet ((go_at_call 41; exact Calls.quiet_of_same (HO0.out _)))
        go_wp2_with fail
        go_ret
        exact ⟨by rw [HX.out]; rfl, below_drewNV2 HBE.out _⟩
      · skip
        go_wp2_with fail
        go_quiet ((go_at_call 41; exact Calls.quiet_of_same (HO0.out _)))
        go_wp2_with fail
        go_roundw
        case rel => exact ⟨1, _, by omega, rfl, HMM.out _, .inr (.inl ⟨rfl, rfl⟩)⟩
        case measure => simp [intOf]
      · skip
        have HX := Lib.hid (show R = 1 from HE.out)
        go_wp2_with fail
        go_quiet ((go_at_call 41; exact Calls.quiet_of_same (HO0.out _)))
        go_wp2_with fail
        go_ret
        exact ⟨by rw [HX.out]; rfl, below_drewNV2 HBE.out _⟩
    · subst hk0
      subst e0
      rcases RG1 with rfl | rfl | rfl
      · skip
        have HX := Lib.hid (show R = -1 from HE.out)
        go_wp2_with fail
        go_quiet ((go_at_call 41; exact Calls.quiet_of_same (HO1.out _)))
        go_wp2_with fail
        go_ret
        exact ⟨by rw [HX.out]; rfl, below_drewNV2 HBE.out _⟩
      · skip
        go_wp2_with fail
        go_quiet ((go_at_call 41; exact Calls.quiet_of_same (HO1.out _)))
        go_wp2_with fail
        go_roundw
        case rel => exact ⟨2, _, by omega, rfl, HMM.out _, .inr (.inr (.inl ⟨rfl, rfl, rfl⟩))⟩
        case measure => simp [intOf]
      · skip
        have HX := Lib.hid (show R = 1 from HE.out)
        go_wp2_with fail
        go_quiet ((go_at_call 41; exact Calls.quiet_of_same (HO1.out _)))
        go_wp2_with fail
        go_ret
        exact ⟨by rw [HX.out]; rfl, below_drewNV2 HBE.out _⟩
    · subst hk0
      subst e0 e1
      rcases RG2 with rfl | rfl | rfl
      · skip
        have HX := Lib.hid (show R = -1 from HE.out)
        go_wp2_with fail
        go_quiet ((go_at_call 41; exact Calls.quiet_of_same (HO2.out _)))
        go_wp2_with fail
        go_ret
        exact ⟨by rw [HX.out]; rfl, below_drewNV2 HBE.out _⟩
      · skip
        go_wp2_with fail
        go_quiet ((go_at_call 41; exact Calls.quiet_of_same (HO2.out _)))
        go_wp2_with fail
        go_roundw
        case rel => exact ⟨3, _, by omega, rfl, HMM.out _, .inr (.inr (.inr ⟨rfl, rfl, rfl, rfl⟩))⟩
        case measure => simp [intOf]
      · skip
        have HX := Lib.hid (show R = 1 from HE.out)
        go_wp2_with fail
        go_quiet ((go_at_call 41; exact Calls.quiet_of_same (HO2.out _)))
        go_wp2_with fail
        go_ret
        exact ⟨by rw [HX.out]; rfl, below_drewNV2 HBE.out _⟩
    · subst hk0
      subst e0 e1 e2
      have HE2 := Lib.hid (show R = prec p q from HE.out)
      have HPR : Hid (prec p q = if p = [] then (if q = [] then 0 else 1) else if q = [] then -1 else idsc p q) := rfl
      rcases rowS_val RU1c.out with ⟨rfl, hp0⟩ | ⟨gp, rfl, hcp⟩
      · rcases rowS_val RU2c.out with ⟨rfl, hq0⟩ | ⟨gq, rfl, hcq⟩
        · have HX := Lib.hid (show R = 0 by rw [HE2.out, HPR.out, if_pos hp0, if_pos hq0])
          go_wp2_with fail
          go_ret
          exact ⟨by rw [HX.out]; rfl, HBE.out⟩
        · by_cases hq0 : q = []
          · have HX := Lib.hid (show R = 0 by rw [HE2.out, HPR.out, if_pos hp0, if_pos hq0])
            subst hq0
            simp only [List.length_nil] at *
            go_wp2_with fail
            go_ret
            exact ⟨by rw [HX.out]; rfl, HBE.out⟩
          · have HX := Lib.hid (show R = 1 by rw [HE2.out, HPR.out, if_pos hp0, if_neg hq0])
            have hq2 : 0 < q.length := List.length_pos_iff.2 hq0
            obtain ⟨nq, hnq⟩ : ∃ nq, q.length = nq := ⟨_, rfl⟩
            rw [hnq] at hq2 ⊢
            clear hnq hcq
            have d1 : decide (0 < nq) = true := by simpa using hq2
            clear hq0
            go_wp2_with fail
            go_ret
            exact ⟨by rw [HX.out]; rfl, HBE.out⟩
      · by_cases hp0 : p = []
        · rcases rowS_val RU2c.out with ⟨rfl, hq0⟩ | ⟨gq, rfl, hcq⟩
          · have HX := Lib.hid (show R = 0 by rw [HE2.out, HPR.out, if_pos hp0, if_pos hq0])
            subst hp0
            simp only [List.length_nil] at *
            go_wp2_with fail
            go_ret
            exact ⟨by rw [HX.out]; rfl, HBE.out⟩
          · by_cases hq0 : q = []
            · have HX := Lib.hid (show R = 0 by rw [HE2.out, HPR.out, if_pos hp0, if_pos hq0])
              subst hp0 hq0
              simp only [List.length_nil] at *
              go_wp2_with fail
              go_ret
              exact ⟨by rw [HX.out]; rfl, HBE.out⟩
            · have HX := Lib.hid (show R = 1 by rw [HE2.out, HPR.out, if_pos hp0, if_neg hq0])
              have hq2 : 0 < q.length := List.length_pos_iff.2 hq0
              subst hp0
              simp only [List.length_nil] at *
              obtain ⟨nq, hnq⟩ : ∃ nq, q.length = nq := ⟨_, rfl⟩
              rw [hnq] at hq2 ⊢
              clear hnq hcq
              have d1 : decide (0 < nq) = true := by simpa using hq2
              clear hq0
              go_wp2_with fail
              go_ret
              exact ⟨by rw [HX.out]; rfl, HBE.out⟩
        · have hp2 : 0 < p.length := List.length_pos_iff.2 hp0
          have e1 : ((p.length : Int) == 0) = false := by rw [beq_eq_false_iff_ne]; omega
          have d0 : decide (0 < p.length) = true := by simpa using hp2
          rcases rowS_val RU2c.out with ⟨rfl, hq0⟩ | ⟨gq, rfl, hcq⟩
          · have HX := Lib.hid (show R = -1 by rw [HE2.out, HPR.out, if_neg hp0, if_pos hq0])
            clear hp0
            obtain ⟨np, hnp⟩ : ∃ np, p.length = np := ⟨_, rfl⟩
            rw [hnp] at hp2 e1 d0 ⊢
            clear hnp hcp
            go_wp2_with fail
            go_ret
            exact ⟨by rw [HX.out]; rfl, HBE.out⟩
          · by_cases hq0 : q = []
            · have HX := Lib.hid (show R = -1 by rw [HE2.out, HPR.out, if_neg hp0, if_pos hq0])
              subst hq0
              simp only [List.length_nil] at *
              clear hp0
              obtain ⟨np, hnp⟩ : ∃ np, p.length = np := ⟨_, rfl⟩
              rw [hnp] at hp2 e1 d0 ⊢
              clear hnp hcp
              go_wp2_with fail
              go_ret
              exact ⟨by rw [HX.out]; rfl, HBE.out⟩
            · have hq2 : 0 < q.length := List.length_pos_iff.2 hq0
              have e2 : ((q.length : Int) == 0) = false := by rw [beq_eq_false_iff_ne]; omega
              have d1 : decide (0 < q.length) = true := by simpa using hq2
              have HIT := Lib.hid (show R = idsT p q 0 by rw [HE2.out, HPR.out, if_neg hp0, if_neg hq0]; rfl)
              have HCP := Lib.hid hcp; have HCQ := Lib.hid hcq
              obtain ⟨np, hnp⟩ : ∃ np, p.length = np := ⟨_, rfl⟩
              obtain ⟨nq, hnq⟩ : ∃ nq, q.length = nq := ⟨_, rfl⟩
              have HNP := Lib.hid hnp; have HNQ := Lib.hid hnq
              rw [hnp] at hp1 e1 d0 hp2 ⊢
              rw [hnq] at hq1 e2 d1 hq2 ⊢
              clear hp0 hq0 hcp hcq hnp hnq a0 a1 a2 c0 c1 c2 x0c x1c x2c y0c y1c y2c
              generalize wr = wz at *
              go_wp2_with fail
              go_loopw [13] (fun i wq => ∃ (j mm : Nat), j ≤ np ∧ j ≤ nq ∧ i = .int .i64 j ∧ Hid (wq = wz.drewN mm) ∧ Hid (R = idsT p q j)) (fun i _ => np - (intOf i).toNat)
              case atStart => exact ⟨0, 0, by omega, by omega, rfl, rfl, HIT.out⟩
              case round =>
                obtain ⟨j, mm, hj1, hj2, rfl, HWQ, HR⟩ := hrel
                have HBQ := Lib.hid (show Below w.heap.size w wr by rw [HWQ.out]; exact below_drewNV2 HBE.out mm)
                by_cases hlt : j < np ∧ j < nq
                · obtain ⟨l1, l2⟩ := hlt
                  have j1 : j < p.length := by rw [HNP.out]; exact l1
                  have j2 : j < q.length := by rw [HNQ.out]; exact l2
                  have cp : wr.cell? ⟨gp, j, none⟩ = some (.string (bs p[j])) := by rw [HWQ.out]; exact HCP.out j j1
                  have cq : wr.cell? ⟨gq, j, none⟩ = some (.string (bs q[j])) := by rw [HWQ.out]; exact HCQ.out j j2
                  have HIJ := Lib.hid (fun w => HID.out j j1 j2 w)
                  have HST := Lib.hid (show R = fst0 (idc p[j] q[j]) (idsT p q (j + 1)) by rw [HR.out]; exact idsT_step j1 j2)
                  have RG := idc_rng p[j] q[j]
                  have t1 : decide ((j : Int) < (np : Int)) = true := by simp; omega
                  have t2 : decide ((j : Int) < (nq : Int)) = true := by simp; omega
                  have z0 : (0 : Int) ≤ (j : Int) := by omega
                  have z1 : (j : Int) < (np : Int) := by omega
                  have z2 : (j : Int) < (nq : Int) := by omega
                  have HMM2 := Lib.hid (show ∀ n', wr.drewN n' = wz.drewN (mm + n') by intro n'; rw [HWQ.out, World.drewN_drewN])
                  generalize idc p[j] q[j] = v at *
                  generalize bs p[j] = sp at *
                  generalize bs q[j] = sq at *
                  rcases RG with rfl | rfl | rfl
                  · have HX := Lib.hid (show R = -1 from HST.out)
                    go_wp2_with fail
                    go_quiet ((go_at_call 42; exact Calls.quiet_of_same (HIJ.out _)))
                    go_wp2_with fail
                    go_ret
                    exact ⟨by rw [HX.out]; rfl, below_drewNV2 HBQ.out _⟩
                  · have HX := Lib.hid (show R = idsT p q (j + 1) from HST.out)
                    go_wp2_with fail
                    go_quiet ((go_at_call 42; exact Calls.quiet_of_same (HIJ.out _)))
                    go_wp2_with fail
                    go_roundw
                    case rel => exact ⟨j + 1, _, by omega, by omega, by go_num, HMM2.out _, HX.out⟩
                    case measure => simp [intOf]; omega
                  · have HX := Lib.hid (show R = 1 from HST.out)
                    go_wp2_with fail
                    go_quiet ((go_at_call 42; exact Calls.quiet_of_same (HIJ.out _)))
                    go_wp2_with fail
                    go_ret
                    exact ⟨by rw [HX.out]; rfl, below_drewNV2 HBQ.out _⟩
                · have HX := Lib.hid (show R = sgn ((np : Int) - nq) by
                    have := idsT_end (p := p) (q := q) (j := j) (by rw [HNP.out]; exact hj1) (by rw [HNQ.out]; exact hj2) (by rw [HNP.out, HNQ.out]; exact hlt)
                    rw [HR.out, this, HNP.out, HNQ.out])
                  have hcs : j = np ∨ (j < np ∧ j = nq) := by omega
                  clear hlt
                  rcases hcs with rfl | ⟨l1, rfl⟩
                  · have t1 : decide ((j : Int) < (j : Int)) = false := by simp
                    go_wp2_with fail
                    refine (HSG.out _ _).mono ?_
                    rintro e w' ⟨rfl, rfl⟩
                    go_wp2_with fail
                    go_ret
                    exact ⟨by rw [HX.out]; rfl, HBQ.out⟩
                  · have t1 : decide ((j : Int) < (np : Int)) = true := by simp; omega
                    have t2 : decide ((j : Int) < (j : Int)) = false := by simp
                    go_wp2_with fail
                    refine (HSG.out _ _).mono ?_
                    rintro e w' ⟨rfl, rfl⟩
                    go_wp2_with fail
                    go_ret
                    exact ⟨by rw [HX.out]; rfl, HBQ.out⟩
end Go.Proofs.YtceeilojcifgeaaGreatDoor
