/-
  Versions, the reference: the walks of byDebian, byDots, Order, Scheme and Compare (strings of at most 100000 bytes).
-/
import Derived.Test.YtceeilojcifgeaaGreatDoorVorD
namespace Go.Proofs.YtceeilojcifgeaaGreatDoor
open Go.RowKit

theorem dr_sym {F : FuncId} {args : Array Value} {w : World} {n : Nat} {v : Value} (h : Calls Tryz.prog F args (w.drewN n) fun e w' => e = .returned v ∧ ∃ m, w' = (w.drewN n).drewN m) : Calls Tryz.prog F args (w.drewN n) fun e w'' => e = .returned v ∧ ∃ m, w'' = w.drewN m := Calls.quiet_of h
set_option maxRecDepth 100000 in
set_option maxHeartbeats 8000000 in
theorem rByDebian_any (a b : BL) (w : World) (ha : a.length ≤ 100000) (hb : b.length ≤ 100000) (x0 x1 x2 y0 y1 y2 : BL)
    (hsa : debR a = some [x0, x1, x2]) (hsb : debR b = some [y0, y1, y2]) (hx : ∀ l ∈ [x0, x1, x2, y0, y1, y2], l.length ≤ 100000) :
    Calls Tryz.prog 26 #[.string (bs a), .string (bs b)] w fun e w' => e = .returned (.int .i64 (fst0 (nord x0 y0) (fst0 (parc x1 y1) (parc x2 y2)))) ∧ Below w.heap.size w w' := by
  have H1 := Lib.hid (fun w => rDebian_any a w ha)
  have H2 := Lib.hid (fun w => rDebian_any b w hb)
  rw [hsa] at H1; rw [hsb] at H2
  have HO0 := Lib.hid (fun w => same_sym (rOrder_any x0 y0 w (hx _ (by simp)) (hx _ (by simp))))
  have HP1 := Lib.hid (fun w => rPart_any x1 y1 w (hx _ (by simp)) (hx _ (by simp)))
  have HP2 := Lib.hid (fun w => rPart_any x2 y2 w (hx _ (by simp)) (hx _ (by simp)))
  generalize nord x0 y0 = n0 at *
  generalize parc x1 y1 = n1 at *
  generalize parc x2 y2 = n2 at *
  obtain ⟨R, hR⟩ : ∃ R, fst0 n0 (fst0 n1 n2) = R := ⟨_, rfl⟩
  have HR := Lib.hid hR
  rw [hR]
  clear hR hsa hsb hx ha hb
  go_enter Tryz.func26, Tryz.ntmps26
  go_wp2_with fail
  refine (H1.out _).mono ?_
  rintro e wa hp
  obtain ⟨v1, rfl, rv1, b1⟩ := PostD.some hp
  have RV1 := Lib.hid rv1; have B1 := Lib.hid b1; clear rv1 b1 hp
  go_wp2_with fail
  refine (H2.out _).mono ?_
  rintro e wb hp
  obtain ⟨v2, rfl, rv2, b2⟩ := PostD.some hp
  have RV2 := Lib.hid rv2
  have RV1b := Lib.hid (rowS_keep RV1.out b2)
  have BB := Lib.hid (nextB B1.out b2)
  clear rv2 b2 hp RV1 B1
  obtain ⟨-, hno⟩ | ⟨gx, rfl, hcx⟩ := rowS_val RV1b.out
  · cases hno
  obtain ⟨-, hno⟩ | ⟨gy, rfl, hcy⟩ := rowS_val RV2.out
  · cases hno
  have x0c := hcx 0 (by simp); have x1c := hcx 1 (by simp); have x2c := hcx 2 (by simp)
  have y0c := hcy 0 (by simp); have y1c := hcy 1 (by simp); have y2c := hcy 2 (by simp)
  simp only [List.getElem_cons_zero, List.getElem_cons_succ, List.length_cons, List.length_nil, Nat.zero_add, Nat.reduceAdd] at x0c x1c x2c y0c y1c y2c ⊢
  clear hcx hcy
  generalize bs x0 = s0 at *
  generalize bs x1 = s1 at *
  generalize bs x2 = s2 at *
  generalize bs y0 = t0 at *
  generalize bs y1 = t1 at *
  generalize bs y2 = t2 at *
  by_cases h0 : n0 = 0
  · subst h0
    go_wp2_with fail
    go_quiet ((go_at_call 41; exact Calls.quiet_of_same (HO0.out _)))
    generalize hwq : wb.drewN nq = wc
    have x0cwc : wc.cell? ⟨gx, 0, none⟩ = some (.string s0) := by rw [← hwq]; exact x0c
    have x1cwc : wc.cell? ⟨gx, 1, none⟩ = some (.string s1) := by rw [← hwq]; exact x1c
    have x2cwc : wc.cell? ⟨gx, 2, none⟩ = some (.string s2) := by rw [← hwq]; exact x2c
    have y0cwc : wc.cell? ⟨gy, 0, none⟩ = some (.string t0) := by rw [← hwq]; exact y0c
    have y1cwc : wc.cell? ⟨gy, 1, none⟩ = some (.string t1) := by rw [← hwq]; exact y1c
    have y2cwc : wc.cell? ⟨gy, 2, none⟩ = some (.string t2) := by rw [← hwq]; exact y2c
    have BBwc := Lib.hid (show Below w.heap.size w wc by rw [← hwq]; exact below_drewNV2 BB.out nq)
    clear hwq
    by_cases h1 : n1 = 0
    · subst h1
      have HX := Lib.hid (show R = n2 from HR.out.symm)
      go_wp2_with fail
      go_quiet ((go_at_call 44; exact Calls.quiet_of (HP1.out _)))
      generalize hwq : wc.drewN nq = wd
      have x0cwd : wd.cell? ⟨gx, 0, none⟩ = some (.string s0) := by rw [← hwq]; exact x0cwc
      have x1cwd : wd.cell? ⟨gx, 1, none⟩ = some (.string s1) := by rw [← hwq]; exact x1cwc
      have x2cwd : wd.cell? ⟨gx, 2, none⟩ = some (.string s2) := by rw [← hwq]; exact x2cwc
      have y0cwd : wd.cell? ⟨gy, 0, none⟩ = some (.string t0) := by rw [← hwq]; exact y0cwc
      have y1cwd : wd.cell? ⟨gy, 1, none⟩ = some (.string t1) := by rw [← hwq]; exact y1cwc
      have y2cwd : wd.cell? ⟨gy, 2, none⟩ = some (.string t2) := by rw [← hwq]; exact y2cwc
      have BBwd := Lib.hid (show Below w.heap.size w wd by rw [← hwq]; exact below_drewNV2 BBwc.out nq)
      clear hwq
      go_wp2_with fail
      go_quiet ((go_at_call 44; exact Calls.quiet_of (HP2.out _)))
      go_wp2_with fail
      go_ret
      exact ⟨by rw [HX.out]; rfl, below_drewNV2 BBwd.out _⟩
    · have HX := Lib.hid (show R = n1 by rw [← HR.out]; exact fst0_ne h1 _)
      have e1 : (n1 != 0) = true := by rw [bne_iff_ne]; exact h1
      clear h1
      go_wp2_with fail
      go_quiet ((go_at_call 44; exact Calls.quiet_of (HP1.out _)))
      go_wp2_with fail
      go_ret
      exact ⟨by rw [HX.out]; rfl, below_drewNV2 BBwc.out _⟩
  · have HX := Lib.hid (show R = n0 by rw [← HR.out]; exact fst0_ne h0 _)
    have e1 : (n0 != 0) = true := by rw [bne_iff_ne]; exact h0
    clear h0
    go_wp2_with fail
    go_quiet ((go_at_call 41; exact Calls.quiet_of_same (HO0.out _)))
    go_wp2_with fail
    go_ret
    exact ⟨by rw [HX.out]; rfl, below_drewNV2 BB.out _⟩
/-- how two lists of numbers are ordered, from the j-th numbers on -/
def dotT (p q : List BL) (j : Nat) : Int := dotc (p.drop j) (q.drop j)
def nth0 (p : List BL) (j : Nat) : BL := if h : j < p.length then p[j] else [48]
theorem dotT_step {p q : List BL} {j : Nat} (h : j < p.length ∨ j < q.length) : dotT p q j = fst0 (nord (nth0 p j) (nth0 q j)) (dotT p q (j + 1)) := by
  unfold dotT nth0
  by_cases h1 : j < p.length
  · rw [dif_pos h1, List.drop_eq_getElem_cons h1]
    by_cases h2 : j < q.length
    · rw [dif_pos h2, List.drop_eq_getElem_cons h2]; conv => lhs; unfold dotc
    · rw [dif_neg h2, List.drop_of_length_le (by omega : q.length ≤ j), List.drop_of_length_le (by omega : q.length ≤ j + 1)]; conv => lhs; unfold dotc
  · rw [dif_neg h1, List.drop_of_length_le (by omega : p.length ≤ j), List.drop_of_length_le (by omega : p.length ≤ j + 1)]
    have h2 : j < q.length := by omega
    rw [dif_pos h2, List.drop_eq_getElem_cons h2]; conv => lhs; unfold dotc
theorem dotT_end {p q : List BL} {j : Nat} (h1 : p.length ≤ j) (h2 : q.length ≤ j) : dotT p q j = 0 := by
  unfold dotT; rw [List.drop_of_length_le h1, List.drop_of_length_le h2]; unfold dotc; rfl
set_option maxRecDepth 100000 in
set_option maxHeartbeats 8000000 in
theorem rByDots_any (a b : BL) (w : World) (ha : a.length ≤ 90000) (hb : b.length ≤ 90000) :
    Calls Tryz.prog 27 #[.string (bs a), .string (bs b)] w fun e w' => e = .returned (.int .i64 (dotc (spl 46 a) (spl 46 b))) ∧ Below w.heap.size w w' := by
  have H1 := Lib.hid (fun w => split_rowV 46 a w (by omega))
  have H2 := Lib.hid (fun w => split_rowV 46 b w (by omega))
  have HL1 := Lib.hid (fun p hp => Nat.le_trans (spl_len 46 a p hp) ha)
  have HL2 := Lib.hid (fun p hp => Nat.le_trans (spl_len 46 b p hp) hb)
  have hc1 : (spl 46 a).length ≤ 90001 := by have := spl_count 46 a; omega
  have hc2 : (spl 46 b).length ≤ 90001 := by have := spl_count 46 b; omega
  obtain ⟨R, hR⟩ : ∃ R, dotc (spl 46 a) (spl 46 b) = R := ⟨_, rfl⟩
  have HR := Lib.hid (show R = dotT (spl 46 a) (spl 46 b) 0 from hR.symm)
  rw [hR]
  clear hR ha hb
  generalize spl 46 a = p at *
  generalize spl 46 b = q at *
  have HOR := Lib.hid (fun j w => rOrder_any (nth0 p j) (nth0 q j) w (by
    unfold nth0; split
    · have := HL1.out p[j] (List.getElem_mem _); omega
    · simp) (by
    unfold nth0; split
    · have := HL2.out q[j] (List.getElem_mem _); omega
    · simp))
  have HPC := Lib.hid (show ∀ j, ∀ h : j < p.length, nth0 p j = p[j] from fun j h => by unfold nth0; rw [dif_pos h])
  have HQC := Lib.hid (show ∀ j, ∀ h : j < q.length, nth0 q j = q[j] from fun j h => by unfold nth0; rw [dif_pos h])
  have HPN := Lib.hid (show ∀ j, ¬ j < p.length → bs (nth0 p j) = ⟨#[48]⟩ from fun j h => by unfold nth0; rw [dif_neg h]; rfl)
  have HQN := Lib.hid (show ∀ j, ¬ j < q.length → bs (nth0 q j) = ⟨#[48]⟩ from fun j h => by unfold nth0; rw [dif_neg h]; rfl)
  go_enter Tryz.func27, Tryz.ntmps27
  go_wp2_with fail
  refine (H1.out _).mono ?_
  rintro e wa ⟨rfl, hwa⟩
  have HWA := Lib.hid hwa
  clear hwa
  go_wp2_with fail
  refine (H2.out _).mono ?_
  rintro e wb ⟨rfl, hwb⟩
  have HBA := Lib.hid (show Below w.heap.size w wa by rw [HWA.out]; exact (Below.refl _ _).alloc (Nat.le_refl _) _)
  have HBB := Lib.hid (show Below w.heap.size w wb by rw [hwb]; exact HBA.out.alloc HBA.out.size _)
  have HROWP := Lib.hid (show wa.heap[w.heap.size]? = some (.cells (p.map (fun p => Value.string (bs p))).toArray 9 (0, 0)) by rw [HWA.out]; exact row_new w p)
  have HROWP2 := Lib.hid (row_keep HROWP.out (show Below wa.heap.size wa wb by rw [hwb]; exact (Below.refl _ _).alloc (Nat.le_refl _) _))
  have HROWQ := Lib.hid (show wb.heap[wa.heap.size]? = some (.cells (q.map (fun p => Value.string (bs p))).toArray 9 (0, 0)) by rw [hwb]; exact row_new wa q)
  clear hwb HROWP HWA HBA
  generalize wa.heap.size = gq at *
  have HCP := Lib.hid (fun j (h : j < p.length) => row_cell HROWP2.out j h)
  have HCQ := Lib.hid (fun j (h : j < q.length) => row_cell HROWQ.out j h)
  obtain ⟨np, hnp⟩ : ∃ np, p.length = np := ⟨_, rfl⟩
  obtain ⟨nq, hnq⟩ : ∃ nq, q.length = nq := ⟨_, rfl⟩
  have HNP := Lib.hid hnp; have HNQ := Lib.hid hnq
  rw [hnp] at hc1 ⊢
  rw [hnq] at hc2 ⊢
  clear hnp hnq
  go_wp2_with fail
  go_loop [7] (fun i => ∃ j : Nat, (j ≤ np ∨ j ≤ nq) ∧ i = .int .i64 j ∧ Hid (R = dotT p q j)) (fun i => np + nq - (intOf i).toNat)
  case atStart => exact ⟨0, by omega, rfl, HR.out⟩
  case round =>
    obtain ⟨j, hj, rfl, HA⟩ := hrel
    by_cases hlt : j < np ∨ j < nq
    · have hl2 : j < p.length ∨ j < q.length := by rw [HNP.out, HNQ.out]; exact hlt
      have HS := Lib.hid (show R = fst0 (nord (nth0 p j) (nth0 q j)) (dotT p q (j + 1)) by rw [HA.out, dotT_step hl2])
      have HO := Lib.hid (fun w => HOR.out j w)
      have hjm : (j + 1 ≤ np ∨ j + 1 ≤ nq) := by omega
      have hmea : np + nq - (j + 1) < np + nq - j := by omega
      have hj9 : j ≤ 90001 := by omega
      have z0 : (0 : Int) ≤ (j : Int) := by omega
      have cs : (j < np ∧ j < nq) ∨ (j < np ∧ ¬ j < nq) ∨ (¬ j < np ∧ j < nq) := by omega
      clear hlt hl2 hj
      rcases cs with ⟨l1, l2⟩ | ⟨l1, l2⟩ | ⟨l1, l2⟩
      focus
        have cp := HCP.out j (by rw [HNP.out]; exact l1)
        have cq := HCQ.out j (by rw [HNQ.out]; exact l2)
        rw [← HPC.out j (by rw [HNP.out]; exact l1)] at cp
        rw [← HQC.out j (by rw [HNQ.out]; exact l2)] at cq
        have d1 : decide (j < np) = true := by simpa using l1
        have d2 : decide (j < nq) = true := by simpa using l2
        have z1 : (j : Int) < (np : Int) := by omega
        have z2 : (j : Int) < (nq : Int) := by omega
        generalize bs (nth0 p j) = sp at *
        generalize bs (nth0 q j) = sq at *
        clear l1 l2
        go_wp2_with fail
      rotate_left 1
      focus
        have cp := HCP.out j (by rw [HNP.out]; exact l1)
        rw [← HPC.out j (by rw [HNP.out]; exact l1)] at cp
        have hq0 := HQN.out j (by rw [HNQ.out]; exact l2)
        rw [hq0] at HO
        have d1 : decide (j < np) = true := by simpa using l1
        have d2 : decide (j < nq) = false := by simpa using l2
        have z1 : (j : Int) < (np : Int) := by omega
        generalize bs (nth0 p j) = sp at *
        clear l1 l2 hq0
        go_wp2_with fail
      rotate_left 1
      focus
        have cq := HCQ.out j (by rw [HNQ.out]; exact l2)
        rw [← HQC.out j (by rw [HNQ.out]; exact l2)] at cq
        have hp0 := HPN.out j (by rw [HNP.out]; exact l1)
        rw [hp0] at HO
        have d1 : decide (j < np) = false := by simpa using l1
        have d2 : decide (j < nq) = true := by simpa using l2
        have z2 : (j : Int) < (nq : Int) := by omega
        generalize bs (nth0 q j) = sq at *
        clear l1 l2 hp0
        go_wp2_with fail
      rotate_left 1
      all_goals
        generalize nord (nth0 p j) (nth0 q j) = v at *
        refine (HO.out _).mono ?_
        rintro e w' ⟨rfl, rfl⟩
        by_cases hv : v = 0
        · subst hv
          have HN := Lib.hid (show R = dotT p q (j + 1) from HS.out)
          go_wp2_with fail
          go_round
          case rel => exact ⟨j + 1, hjm, by go_num, HN.out⟩
          case measure => simp only [intOf]; first | omega | (simp; omega)
        · have HN := Lib.hid (show R = v by rw [HS.out, fst0_ne hv])
          have e1 : (v != 0) = true := by rw [bne_iff_ne]; exact hv
          clear hv
          go_wp2_with fail
          go_ret
          exact ⟨by rw [HN.out]; rfl, HBB.out⟩
    · have HN := Lib.hid (show R = 0 by rw [HA.out, dotT_end (by rw [HNP.out]; omega) (by rw [HNQ.out]; omega)])
      have d1 : decide (j < np) = false := by rw [decide_eq_false_iff_not]; omega
      have d2 : decide (j < nq) = false := by rw [decide_eq_false_iff_not]; omega
      clear hlt hj
      go_wp2_with fail
      go_ret
      exact ⟨by rw [HN.out]; rfl, HBB.out⟩
end Go.Proofs.YtceeilojcifgeaaGreatDoor
