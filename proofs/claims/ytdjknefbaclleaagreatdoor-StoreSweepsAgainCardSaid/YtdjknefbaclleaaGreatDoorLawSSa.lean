/-
  StoreSweepsAgain: the walk of the law.
-/
import Derived.Test.YtdjknefbaclleaaGreatDoorSwaM
import Derived.Test.YtdjknefbaclleaaGreatDoorSwfL
import Derived.Test.YtdjknefbaclleaaGreatDoorGj
import Derived.Test.YtdjknefbaclleaaGreatDoorGt
namespace Go.Proofs.YtdjknefbaclleaaGreatDoor
open Go.RowKit Go.Sort

theorem fnd_has {l : List Bl} {d : List Int} (h : ∃ y ∈ l, y.d = d) : ∃ x, fnd l d = some x := by
  obtain ⟨y, hy, e⟩ := h
  cases hf : fnd l d with
  | some x => exact ⟨x, rfl⟩
  | none => exact absurd e (fnd_none hf y hy)
theorem all_rch {l : List Bl} {R ds : List (List Int)} (hl : Lks l) (ha : ∀ d ∈ ds, ∃ y ∈ l, y.d = d) (hr : ∀ d ∈ R, d ∈ ds) {d : List Int} (h : Rch l R d) : ∃ x, fnd l d = some x := by
  cases h with
  | root h hz => exact fnd_has (ha d (hr d h))
  | link h hx he => exact fnd_has (hl _ (fnd_some hx).1 d he)
theorem NumsIn.moreS {w : World} {B B' : Nat} {sp : Option Addr} {n cap : Nat} {l : List Int} (h : NumsIn w B sp n cap l) (hB : B ≤ B') : NumsIn w B' sp n cap l :=
  ⟨h.len, fun hn => by
    obtain ⟨b, off, e, hlt, hc, hr⟩ := h.cells hn
    exact ⟨b, off, e, by omega, hc, hr⟩, h.wide, h.short⟩
set_option maxRecDepth 100000 in
set_option maxHeartbeats 8000000 in
theorem storeSweepsAgain_any (pa : Option Addr) (np ncap : Nat) (ls : List Nl) (fp : Option Addr) (fn fc : Nat) (F : List Int) (w : World) (hnl : NlsIn w w.heap.size pa np ncap ls) (hf : NumsIn w w.heap.size fp fn fc F) (hk : KayIn w) (hk0 : 1 < w.heap.size) :
    Calls Tryz.prog 3 #[.slice pa np ncap, .slice fp fn fc] w fun e w' => e = .returned (.bool true) ∧ Below w.heap.size w w' := by
  have HFI := Lib.hid (filledL_any pa np ncap ls w hnl)
  have HF := Lib.hid hf; have HK := Lib.hid hk; have HK0 := Lib.hid hk0
  have hfn := hf.short
  clear hnl hf hk hk0
  go_enter Tryz.func3, Tryz.ntmps3
  go_wp2_with fail
  refine HFI.out.mono ?_
  rintro e w1 ⟨gs, ns, cs, gd, nd, cd, lx, ds, rfl, hfil, hnd, b1, hlks⟩
  have HB1 := Lib.hid b1
  have HLX1 := Lib.hid (hfil.sto.bls hfil.len); have HDS1 := Lib.hid (hfil.dg.digs hfil.dlen)
  have HLL := Lib.hid hfil.len; have HGD := Lib.hid hfil.good; have HAL := Lib.hid hfil.all; have HLK := Lib.hid hlks
  have hns : ns ≤ 12 := by have := hfil.few; omega
  clear hfil b1 hlks HFI
  go_wp2_with fail
  go_loopw [7, 8] (fun v7 v8 wr => ∃ (i c : Nat) (g : Option Addr) (R : List (List Int)), v7 = .slice g i c ∧ v8 = .int .i64 i ∧ i ≤ fn ∧ i ≤ 5 ∧ Hid (R.length = i ∧ OwnDg wr w1.heap.size (.slice g i c) R ∧ (∀ d ∈ R, d ∈ ds) ∧ Below w1.heap.size w1 wr)) (fun _ v8 _ => fn - (intOf v8).toNat)
  case atStart => exact ⟨0, 0, none, [], rfl, rfl, Nat.zero_le _, Nat.zero_le _, rfl, OwnDg.nil _ _, fun d hd => (by cases hd), Below.refl _ _⟩
  case round =>
    obtain ⟨i, c, g, R, rfl, rfl, hi, hi5, H⟩ := hrel
    have HRL := Lib.hid H.out.1; have HO := Lib.hid H.out.2.1; have HRD := Lib.hid H.out.2.2.1; have HBE := Lib.hid H.out.2.2.2
    have HB := Lib.hid (HB1.out.trans (HBE.out.mono HB1.out.size))
    clear H
    by_cases hgo : i < fn ∧ i < 5 ∧ 0 < nd
    · have c1 : decide ((i : Int) < (fn : Int)) = true := by simp; omega
      have c2 : decide ((i : Int) < 5) = true := by simp; omega
      have c3 : decide ((nd : Int) > 0) = true := by simp; omega
      have p1 : (0 : Int) ≤ (i : Int) := by omega
      have p2 : (i : Int) < (fn : Int) := by omega
      obtain ⟨qb, qo, hqs, hqb, hqcap, hqr⟩ := HF.out.cells (by omega)
      subst hqs
      obtain ⟨v, hv⟩ : ∃ v, F[i]? = some v := ⟨F[i]'(by have := HF.out.len; omega), List.getElem?_eq_getElem _⟩
      have hvc : wr.cell? ⟨qb, qo + i, none⟩ = some (.int .i64 v) := (HB.out.cell (p := ⟨qb, qo + i, none⟩) hqb).trans (hqr i v hv)
      have hvw := HF.out.wide v (List.mem_of_getElem? hv)
      obtain ⟨r, hr, hre⟩ := idx_val v nd (by omega) (by omega)
      have hiz : ((nd : Int) == 0) = false := by simp; omega
      obtain ⟨d, gb, go, hdk, hd32, hgd, hgb, hgcap, hrr⟩ := digs_at (HDS1.out.upD HBE.out HBE.out.size) hr
      subst hgd
      have HDR := Lib.hid hrr; have HD32 := Lib.hid hd32; have HDM := Lib.hid (List.mem_of_getElem? hdk); have HID := Lib.hid (info_d hd32)
      have r0 : (0 : Int) ≤ (r : Int) := by omega
      have r1 : (r : Int) < (nd : Int) := by omega
      have HRS := Lib.hid HRL.out.symm
      have hi2 := hgo.2.1
      have hi1 := hgo.1
      clear hqr hv hqb hdk hd32 hrr hgb hgo
      go_wp2_with (first
        | (refine wpList_load_mid rfl 29 _ rfl gb (go + r * 32) rfl _ _ HDR.out Tryz.underlying29 rfl HID.out ?_)
        | (refine wpList_slice_eqG rfl 25 1 [(0, .tmp 53)] rfl [(0, .agg (dv d))] rfl _ _ (sliceDg _ d HD32.out) ?_; have HZ4 := Lib.hid (dv_rowC wr d); have hb4 : Below wr.heap.size wr (wr.alloc (.cells (dv d) 29)) := (Below.refl wr.heap.size wr).alloc (Nat.le_refl _) _; have HO4 := Lib.hid (HO.out.below hb4); have HB4 := Lib.hid (HBE.out.trans (hb4.mono HBE.out.size)); clear hb4; generalize World.alloc wr _ = w4 at *)
        | (at_builtin; refine wpList_append_dg rfl (.tmp 37) (.tmp 54) rfl w1.heap.size _ R i HRS.out rfl HO4.out wr.heap.size d rfl HZ4.out HD32.out (by omega) HB4.out.size ?_; intro sp5 cap5 w5 HO5 HB5 HG5))
      have HB6 := Lib.hid (HB4.out.trans HB5.out)
      have HL6 : Hid ((R ++ [d]).length = i + 1) := by show _ = _; rw [List.length_append, HRL.out]; rfl
      have HR6 : Hid (∀ e ∈ R ++ [d], e ∈ ds) := fun e he => by
        rcases List.mem_append.1 he with he | he
        · exact HRD.out e he
        · rw [List.mem_singleton.1 he]; exact HDM.out
      go_roundw
      case rel => exact ⟨i + 1, cap5, sp5, R ++ [d], rfl, by go_num, hi1, hi2, HL6.out, HO5.out, HR6.out, HB6.out⟩
      case measure => simp [intOf]; omega
    · have HALL := Lib.hid (show ∀ d, Rch lx R d → ∃ x, fnd lx d = some x from fun d h => all_rch HLK.out HAL.out HRD.out h)
      have HLX := Lib.hid (HLX1.out.up HBE.out (Nat.le_refl _))
      rcases (by omega : ¬ i < fn ∨ (i < fn ∧ ¬ i < 5) ∨ (i < fn ∧ i < 5 ∧ ¬ 0 < nd)) with hc1 | hc1 | hc1
      · have c1 : decide ((i : Int) < (fn : Int)) = false := by simp; omega
        have c1p : ¬ (i : Int) < (fn : Int) := by omega
        have c1n : ¬ i < fn := hc1
        clear hgo hc1
        go_wp2_with fail
        refine (sweep_any gs ns cs lx g i c R wr HLX.out (HO.out.digs HRL.out) HO.out.nilcap (by omega) (by omega)).mono ?_
        rintro e w2 ⟨hsw, b2⟩
        rcases hsw with ⟨h0, _⟩ | ⟨_, P, M, sp, m, cap, L, hcd, rfl, hLl, hLb, hLi, _⟩
        · rw [HGD.out.vld (by rw [List.length_map, HLL.out]; omega)] at h0; cases h0
        have HB2 := Lib.hid (HB.out.trans (b2.mono HB.out.size))
        have HCD := Lib.hid hcd; have HLb := Lib.hid hLb; have HLi := Lib.hid hLi
        have HGL := Lib.hid (kept_good HGD.out hLb)
        have HMP := Lib.hid (show m = P.length by rw [← hLl]; exact kept_count hcd HGD.out.srt hLb)
        have hm12 : m ≤ 12 := by have h1 := hcd.few; have h2 := HMP.out; have h3 := HLL.out; omega
        have HLX2 := Lib.hid (HLX.out.up b2 (Nat.le_refl _)); have HO2 := Lib.hid (HO.out.below b2)
        clear hcd hLl hLb hLi b2 HLX HO
        go_wp2_with fail
        refine (sweep_any sp m cap L g i c R w2 HLi.out (HO2.out.digs HRL.out) HO2.out.nilcap (by omega) (by omega)).mono ?_
        rintro e w3 ⟨hsw, b3⟩
        rcases hsw with ⟨h0, _⟩ | ⟨_, P', M', sp', m', cap', L', hcd, rfl, hLl, hLb, hLi, _⟩
        · rw [HGL.out.vld (by rw [List.length_map, HLi.out.len]; omega)] at h0; cases h0
        have HB3 := Lib.hid (HB2.out.trans (b3.mono HB2.out.size))
        have HLq := Lib.hid (show L'.map bp = L.map bp by rw [hLb, kept_present HCD.out HLb.out hcd, kept_again HLb.out])
        have hmm : m = m' := by
          have h1 := congrArg List.length HLq.out
          rw [List.length_map, List.length_map, hLl, HLi.out.len] at h1; omega
        subst hmm
        have HLi' := Lib.hid hLi
        have HLi3 := Lib.hid (HLi.out.up b3 (Nat.le_refl _)); have HLX3 := Lib.hid (HLX2.out.up b3 (Nat.le_refl _)); have HO3 := Lib.hid (HO2.out.below b3)
        clear hcd hLl hLb hLi b3 HLX2 HO2 HLi
        go_wp2_with fail
        refine (same05_any sp m cap L sp' cap' L' w3 HLi3.out HLi'.out (by omega) HLq.out.symm).mono ?_
        rintro e w4 ⟨rfl, b4⟩
        have HB4 := Lib.hid (HB3.out.trans (b4.mono HB3.out.size))
        have HLi4 := Lib.hid (HLi3.out.up b4 (Nat.le_refl _)); have HLX4 := Lib.hid (HLX3.out.up b4 (Nat.le_refl _)); have HO4 := Lib.hid (HO3.out.below b4)
        clear b4 HLi3 HLX3 HO3 HLi'
        go_wp2_with fail
        refine (rclo_any gs ns cs lx g i c R w4 HLX4.out (HO4.out.digs HRL.out) (by omega) (by have h1 := pot_leS [] lx; rw [HLL.out] at h1; omega)).mono ?_
        rintro e w5 ⟨⟨gp, np3, cp, gm, nm, cm, P3, M3, rfl, hcd, hdp, _, _, _⟩, b5⟩
        obtain ⟨rfl, rfl⟩ := HCD.out.det hcd
        have HB5 := Lib.hid (HB4.out.trans (b5.mono HB4.out.size))
        have hnp : np3 = m := by rw [← hdp.len]; exact HMP.out.symm
        subst hnp
        have HDP5 := Lib.hid hdp
        have HLi5 := Lib.hid (HLi4.out.up b5 (Nat.le_refl _)); have HO5 := Lib.hid (HO4.out.below b5)
        clear hcd hdp b5 HLi4 HLX4 HO4
        go_wp2_with fail
        refine (clo_any sp np3 cap L g i c R w5 HLi5.out (HO5.out.digs HRL.out) HO5.out.nilcap (by omega) (by have h1 := pot_leS [] L; rw [HLi5.out.len] at h1; omega)).mono ?_
        rintro e w6 ⟨⟨gq, nq, cq, gn, nn, cn, P4, M4, rfl, hcd, hdp, hdm, _, _, _, _⟩, b6⟩
        have hp4 := kept_present HCD.out HLb.out hcd
        subst hp4
        have hm4 := kept_missing HCD.out HLb.out hcd HALL.out
        subst hm4
        obtain rfl : nn = 0 := hdm.len.symm
        have HB6 := Lib.hid (HB5.out.trans (b6.mono HB5.out.size))
        have HDQ6 := Lib.hid hdp; have HDP6 := Lib.hid (HDP5.out.upD b6 b6.size)
        clear hcd hdp hdm b6 HLi5 HO5 HDP5
        go_wp2_with fail
        refine (awake5_any w6 (HK.out.below HB6.out HK0.out) (Nat.lt_of_lt_of_le HK0.out HB6.out.size)).mono ?_
        rintro e w7 ⟨rfl, b7⟩
        have HB7 := Lib.hid (HB6.out.trans (b7.mono HB6.out.size))
        have HDQ7 := Lib.hid (HDQ6.out.upD b7 b7.size); have HDP7 := Lib.hid (HDP6.out.upD b7 b7.size)
        clear b7 HDQ6 HDP6
        have hnn : ((np3 : Int) == (np3 : Int)) = true := by simp
        go_wp2_with fail
        refine (sameD_any gp np3 cp _ gq nq cq _ w7 HDP7.out HDQ7.out (by omega) rfl).mono ?_
        rintro e w8 ⟨rfl, b8⟩
        have HB8 := Lib.hid (HB7.out.trans (b8.mono HB7.out.size))
        go_wp2_with fail
        go_ret
        exact ⟨rfl, HB8.out⟩
      · have c1 : decide ((i : Int) < (fn : Int)) = true := by simp; omega
        have c1p : (i : Int) < (fn : Int) := by omega
        have c1n : i < fn := hc1.1
        have c2 : decide ((i : Int) < 5) = false := by simp; omega
        have c2p : ¬ (i : Int) < 5 := by omega
        have c2n : ¬ i < 5 := hc1.2
        clear hgo hc1
        go_wp2_with fail
        refine (sweep_any gs ns cs lx g i c R wr HLX.out (HO.out.digs HRL.out) HO.out.nilcap (by omega) (by omega)).mono ?_
        rintro e w2 ⟨hsw, b2⟩
        rcases hsw with ⟨h0, _⟩ | ⟨_, P, M, sp, m, cap, L, hcd, rfl, hLl, hLb, hLi, _⟩
        · rw [HGD.out.vld (by rw [List.length_map, HLL.out]; omega)] at h0; cases h0
        have HB2 := Lib.hid (HB.out.trans (b2.mono HB.out.size))
        have HCD := Lib.hid hcd; have HLb := Lib.hid hLb; have HLi := Lib.hid hLi
        have HGL := Lib.hid (kept_good HGD.out hLb)
        have HMP := Lib.hid (show m = P.length by rw [← hLl]; exact kept_count hcd HGD.out.srt hLb)
        have hm12 : m ≤ 12 := by have h1 := hcd.few; have h2 := HMP.out; have h3 := HLL.out; omega
        have HLX2 := Lib.hid (HLX.out.up b2 (Nat.le_refl _)); have HO2 := Lib.hid (HO.out.below b2)
        clear hcd hLl hLb hLi b2 HLX HO
        go_wp2_with fail
        refine (sweep_any sp m cap L g i c R w2 HLi.out (HO2.out.digs HRL.out) HO2.out.nilcap (by omega) (by omega)).mono ?_
        rintro e w3 ⟨hsw, b3⟩
        rcases hsw with ⟨h0, _⟩ | ⟨_, P', M', sp', m', cap', L', hcd, rfl, hLl, hLb, hLi, _⟩
        · rw [HGL.out.vld (by rw [List.length_map, HLi.out.len]; omega)] at h0; cases h0
        have HB3 := Lib.hid (HB2.out.trans (b3.mono HB2.out.size))
        have HLq := Lib.hid (show L'.map bp = L.map bp by rw [hLb, kept_present HCD.out HLb.out hcd, kept_again HLb.out])
        have hmm : m = m' := by
          have h1 := congrArg List.length HLq.out
          rw [List.length_map, List.length_map, hLl, HLi.out.len] at h1; omega
        subst hmm
        have HLi' := Lib.hid hLi
        have HLi3 := Lib.hid (HLi.out.up b3 (Nat.le_refl _)); have HLX3 := Lib.hid (HLX2.out.up b3 (Nat.le_refl _)); have HO3 := Lib.hid (HO2.out.below b3)
        clear hcd hLl hLb hLi b3 HLX2 HO2 HLi
        go_wp2_with fail
        refine (same05_any sp m cap L sp' cap' L' w3 HLi3.out HLi'.out (by omega) HLq.out.symm).mono ?_
        rintro e w4 ⟨rfl, b4⟩
        have HB4 := Lib.hid (HB3.out.trans (b4.mono HB3.out.size))
        have HLi4 := Lib.hid (HLi3.out.up b4 (Nat.le_refl _)); have HLX4 := Lib.hid (HLX3.out.up b4 (Nat.le_refl _)); have HO4 := Lib.hid (HO3.out.below b4)
        clear b4 HLi3 HLX3 HO3 HLi'
        go_wp2_with fail
        refine (rclo_any gs ns cs lx g i c R w4 HLX4.out (HO4.out.digs HRL.out) (by omega) (by have h1 := pot_leS [] lx; rw [HLL.out] at h1; omega)).mono ?_
        rintro e w5 ⟨⟨gp, np3, cp, gm, nm, cm, P3, M3, rfl, hcd, hdp, _, _, _⟩, b5⟩
        obtain ⟨rfl, rfl⟩ := HCD.out.det hcd
        have HB5 := Lib.hid (HB4.out.trans (b5.mono HB4.out.size))
        have hnp : np3 = m := by rw [← hdp.len]; exact HMP.out.symm
        subst hnp
        have HDP5 := Lib.hid hdp
        have HLi5 := Lib.hid (HLi4.out.up b5 (Nat.le_refl _)); have HO5 := Lib.hid (HO4.out.below b5)
        clear hcd hdp b5 HLi4 HLX4 HO4
        go_wp2_with fail
        refine (clo_any sp np3 cap L g i c R w5 HLi5.out (HO5.out.digs HRL.out) HO5.out.nilcap (by omega) (by have h1 := pot_leS [] L; rw [HLi5.out.len] at h1; omega)).mono ?_
        rintro e w6 ⟨⟨gq, nq, cq, gn, nn, cn, P4, M4, rfl, hcd, hdp, hdm, _, _, _, _⟩, b6⟩
        have hp4 := kept_present HCD.out HLb.out hcd
        subst hp4
        have hm4 := kept_missing HCD.out HLb.out hcd HALL.out
        subst hm4
        obtain rfl : nn = 0 := hdm.len.symm
        have HB6 := Lib.hid (HB5.out.trans (b6.mono HB5.out.size))
        have HDQ6 := Lib.hid hdp; have HDP6 := Lib.hid (HDP5.out.upD b6 b6.size)
        clear hcd hdp hdm b6 HLi5 HO5 HDP5
        go_wp2_with fail
        refine (awake5_any w6 (HK.out.below HB6.out HK0.out) (Nat.lt_of_lt_of_le HK0.out HB6.out.size)).mono ?_
        rintro e w7 ⟨rfl, b7⟩
        have HB7 := Lib.hid (HB6.out.trans (b7.mono HB6.out.size))
        have HDQ7 := Lib.hid (HDQ6.out.upD b7 b7.size); have HDP7 := Lib.hid (HDP6.out.upD b7 b7.size)
        clear b7 HDQ6 HDP6
        have hnn : ((np3 : Int) == (np3 : Int)) = true := by simp
        go_wp2_with fail
        refine (sameD_any gp np3 cp _ gq nq cq _ w7 HDP7.out HDQ7.out (by omega) rfl).mono ?_
        rintro e w8 ⟨rfl, b8⟩
        have HB8 := Lib.hid (HB7.out.trans (b8.mono HB7.out.size))
        go_wp2_with fail
        go_ret
        exact ⟨rfl, HB8.out⟩
      · have c1 : decide ((i : Int) < (fn : Int)) = true := by simp; omega
        have c2 : decide ((i : Int) < 5) = true := by simp; omega
        have c1p : (i : Int) < (fn : Int) := by omega
        have c1n : i < fn := hc1.1
        have c2p : (i : Int) < 5 := by omega
        have c2n : i < 5 := hc1.2.1
        have c3p : ¬ (0 : Int) < (nd : Int) := by omega
        have c3n : ¬ 0 < nd := hc1.2.2
        have c3z : decide (0 < nd) = false := decide_eq_false hc1.2.2
        have c3y : decide ((0 : Int) < (nd : Int)) = false := decide_eq_false c3p
        clear hgo hc1
        go_wp2_with fail
        refine (sweep_any gs ns cs lx g i c R wr HLX.out (HO.out.digs HRL.out) HO.out.nilcap (by omega) (by omega)).mono ?_
        rintro e w2 ⟨hsw, b2⟩
        rcases hsw with ⟨h0, _⟩ | ⟨_, P, M, sp, m, cap, L, hcd, rfl, hLl, hLb, hLi, _⟩
        · rw [HGD.out.vld (by rw [List.length_map, HLL.out]; omega)] at h0; cases h0
        have HB2 := Lib.hid (HB.out.trans (b2.mono HB.out.size))
        have HCD := Lib.hid hcd; have HLb := Lib.hid hLb; have HLi := Lib.hid hLi
        have HGL := Lib.hid (kept_good HGD.out hLb)
        have HMP := Lib.hid (show m = P.length by rw [← hLl]; exact kept_count hcd HGD.out.srt hLb)
        have hm12 : m ≤ 12 := by have h1 := hcd.few; have h2 := HMP.out; have h3 := HLL.out; omega
        have HLX2 := Lib.hid (HLX.out.up b2 (Nat.le_refl _)); have HO2 := Lib.hid (HO.out.below b2)
        clear hcd hLl hLb hLi b2 HLX HO
        go_wp2_with fail
        refine (sweep_any sp m cap L g i c R w2 HLi.out (HO2.out.digs HRL.out) HO2.out.nilcap (by omega) (by omega)).mono ?_
        rintro e w3 ⟨hsw, b3⟩
        rcases hsw with ⟨h0, _⟩ | ⟨_, P', M', sp', m', cap', L', hcd, rfl, hLl, hLb, hLi, _⟩
        · rw [HGL.out.vld (by rw [List.length_map, HLi.out.len]; omega)] at h0; cases h0
        have HB3 := Lib.hid (HB2.out.trans (b3.mono HB2.out.size))
        have HLq := Lib.hid (show L'.map bp = L.map bp by rw [hLb, kept_present HCD.out HLb.out hcd, kept_again HLb.out])
        have hmm : m = m' := by
          have h1 := congrArg List.length HLq.out
          rw [List.length_map, List.length_map, hLl, HLi.out.len] at h1; omega
        subst hmm
        have HLi' := Lib.hid hLi
        have HLi3 := Lib.hid (HLi.out.up b3 (Nat.le_refl _)); have HLX3 := Lib.hid (HLX2.out.up b3 (Nat.le_refl _)); have HO3 := Lib.hid (HO2.out.below b3)
        clear hcd hLl hLb hLi b3 HLX2 HO2 HLi
        go_wp2_with fail
        refine (same05_any sp m cap L sp' cap' L' w3 HLi3.out HLi'.out (by omega) HLq.out.symm).mono ?_
        rintro e w4 ⟨rfl, b4⟩
        have HB4 := Lib.hid (HB3.out.trans (b4.mono HB3.out.size))
        have HLi4 := Lib.hid (HLi3.out.up b4 (Nat.le_refl _)); have HLX4 := Lib.hid (HLX3.out.up b4 (Nat.le_refl _)); have HO4 := Lib.hid (HO3.out.below b4)
        clear b4 HLi3 HLX3 HO3 HLi'
        go_wp2_with fail
        refine (rclo_any gs ns cs lx g i c R w4 HLX4.out (HO4.out.digs HRL.out) (by omega) (by have h1 := pot_leS [] lx; rw [HLL.out] at h1; omega)).mono ?_
        rintro e w5 ⟨⟨gp, np3, cp, gm, nm, cm, P3, M3, rfl, hcd, hdp, _, _, _⟩, b5⟩
        obtain ⟨rfl, rfl⟩ := HCD.out.det hcd
        have HB5 := Lib.hid (HB4.out.trans (b5.mono HB4.out.size))
        have hnp : np3 = m := by rw [← hdp.len]; exact HMP.out.symm
        subst hnp
        have HDP5 := Lib.hid hdp
        have HLi5 := Lib.hid (HLi4.out.up b5 (Nat.le_refl _)); have HO5 := Lib.hid (HO4.out.below b5)
        clear hcd hdp b5 HLi4 HLX4 HO4
        go_wp2_with fail
        refine (clo_any sp np3 cap L g i c R w5 HLi5.out (HO5.out.digs HRL.out) HO5.out.nilcap (by omega) (by have h1 := pot_leS [] L; rw [HLi5.out.len] at h1; omega)).mono ?_
        rintro e w6 ⟨⟨gq, nq, cq, gn, nn, cn, P4, M4, rfl, hcd, hdp, hdm, _, _, _, _⟩, b6⟩
        have hp4 := kept_present HCD.out HLb.out hcd
        subst hp4
        have hm4 := kept_missing HCD.out HLb.out hcd HALL.out
        subst hm4
        obtain rfl : nn = 0 := hdm.len.symm
        have HB6 := Lib.hid (HB5.out.trans (b6.mono HB5.out.size))
        have HDQ6 := Lib.hid hdp; have HDP6 := Lib.hid (HDP5.out.upD b6 b6.size)
        clear hcd hdp hdm b6 HLi5 HO5 HDP5
        go_wp2_with fail
        refine (awake5_any w6 (HK.out.below HB6.out HK0.out) (Nat.lt_of_lt_of_le HK0.out HB6.out.size)).mono ?_
        rintro e w7 ⟨rfl, b7⟩
        have HB7 := Lib.hid (HB6.out.trans (b7.mono HB6.out.size))
        have HDQ7 := Lib.hid (HDQ6.out.upD b7 b7.size); have HDP7 := Lib.hid (HDP6.out.upD b7 b7.size)
        clear b7 HDQ6 HDP6
        have hnn : ((np3 : Int) == (np3 : Int)) = true := by simp
        go_wp2_with fail
        refine (sameD_any gp np3 cp _ gq nq cq _ w7 HDP7.out HDQ7.out (by omega) rfl).mono ?_
        rintro e w8 ⟨rfl, b8⟩
        have HB8 := Lib.hid (HB7.out.trans (b8.mono HB7.out.size))
        go_wp2_with fail
        go_ret
        exact ⟨rfl, HB8.out⟩
end Go.Proofs.YtdjknefbaclleaaGreatDoor
