/-
  Envelopes: the walk of Sign (conditions: the table of constants reads as it is laid; slices.Insert at lists of this length answers as it should).
-/
import Derived.Test.YtcligodahogpkaaGreatDoorZip
import Derived.Test.YtcligodahogpkaaGreatDoorH4
set_option maxRecDepth 100000
set_option maxHeartbeats 8000000
namespace Go.Proofs.YtcligodahogpkaaGreatDoor
open Go.RowKit Go.Proofs.YtcligodahogpkaaGreatDoor.One
theorem wP (t : ByteArray) (sp : Option Addr) (n0 cap : Nat) (b : List UInt8) (sq : Option Addr) (m cq : Nat) (l : List Sg) (x : List Int) (h n : Int) (w : World) (ht : t.size ≤ maxLen) (hp : BSrc w w.heap.size sp n0 cap b) (hpn : sp = none → cap = 0) (hl : SgsIn w w.heap.size sq m cq l) (hln : sq = none → cq = 0) (hlt : ∀ y ∈ l, y.n ≤ 1000 ∧ y.m ≤ 1000) (hx : H16 x) (hins : InsN m) (hk : KayIn w) (hk0 : 1 < w.heap.size) :
 Calls Tryz.prog 34 #[.agg (enA t (.slice sp n0 cap) (.slice sq m cq)), .agg (sgA x h n)] w (SgR (nS t b (l.map pg) x h n) w) := by
 have HP := zh hp; have HPN := zh hpn; have HL := zh hl; have IJ := zh hlt; have HX := zh hx; have HK := zh hk; have HINS := zh hins; have HLNN := zh hln
 clear hp hpn hl hlt hx hk hins hln
 obtain ⟨V, hV⟩ : ∃ V, nS t b (l.map pg) x h n = V := ⟨_, rfl⟩
 rw [hV]
 have HV := zh hV
 clear hV
 have HMO := zh (iX t b)
 obtain ⟨x1, h1, n1, l1, E, N, M, cl, pl, hS⟩ := qE x h n (dQ t b) HX.out HMO.out
 have HS := zh hS
 have HX1 := zh hS.hx
 clear hS
 have HT := zh (SnF.new w (enA t (.slice sp n0 cap) (.slice sq m cq)) (sgA x h n))
 have HIE := zh (aL t (.slice sp n0 cap) (.slice sq m cq))
 go_enter Tryz.func34, Tryz.ntmps34
 go_upto_region 1 with fail
 generalize hw0 : World.alloc (World.alloc (World.alloc (World.alloc w _) _) _) _ = w0
 have HF0 : Hid (SnF w (enA t (.slice sp n0 cap) (.slice sq m cq)) (sgA x h n) w0) := by rw [← hw0]; exact HT.out
 clear hw0 HT
 have HUP : Hid (∀ w', Below w.heap.size w w' → BSrc w' w'.heap.size sp n0 cap b ∧ SgsIn w' w'.heap.size sq m cq l ∧ KayIn w' ∧ 1 < w'.heap.size) := fun w' hb => ⟨(HP.out.below hb (Nat.le_refl _)).more hb.size, HL.out.up hb (Nat.le_refl _), HK.out.below hb hk0, by have := hb.size; omega⟩
 have HCV := zh (fN t sp n0 cap b sq m cq l w0 ht (HUP.out _ HF0.out.b).1 (HUP.out _ HF0.out.b).2.1 (HUP.out _ HF0.out.b).2.2.1 (HUP.out _ HF0.out.b).2.2.2)
 go_wp2_with (refine wpList_load_row rfl 25 _ rfl w.heap.size rfl 25 _ (0, 0) _ HF0.out.e Tryz.underlying25 rfl HIE.out ?_)
 refine HCV.out.mono ?_
 rintro e w1 ⟨rfl, hb⟩
 have HF1 := zh (HF0.out.below hb)
 clear hb HCV HF0
 have hbe := kH
 have hbs := fJ
 cases hvl : eY t b (l.map pg)
 ·have HVE : Hid (V = uX 1) := HV.out.symm.trans (IT hvl)
  clear hvl
  go_wp2_with (first
   | (refine wpList_store_row rfl 25 _ _ rfl (w.heap.size + 1 + 1) zEn rfl rfl 25 _ HF1.out.y (aL _ _ _) rfl (cJ _ _ _ _ _ _ _) ?_; generalize hw8 : World.setRow w1 _ _ = w8; have HY8 : Hid (w8.heap[w.heap.size + 1 + 1]? = some (.cells zEn 25 (0, 0))) := (by rw [← hw8]; exact setRow_heap _ _ _ _ _ _ HF1.out.y); have HZ8 : Hid (w8.heap[w.heap.size + 1 + 1 + 1]? = some (.cells (sgA bK 0 0) 64 (0, 0))) := (by rw [← hw8]; exact (setRow_other _ _ _ _ (by omega)).trans HF1.out.z); have HB8 : Hid (Below w.heap.size w w8) := (by rw [← hw8]; exact below_setRow HF1.out.b (by omega) _); clear hw8)
   | (refine wpList_store_row rfl 64 _ _ rfl (w.heap.size + 1 + 1 + 1) (sgA bK 0 0) rfl rfl 64 _ HZ8.out (aJ aD) rfl (bA _ _ _) ?_; generalize hw9 : World.setRow w8 _ _ = w9; have HZ9 : Hid (w9.heap[w.heap.size + 1 + 1 + 1]? = some (.cells (sgA bK 0 0) 64 (0, 0))) := (by rw [← hw9]; exact setRow_heap _ _ _ _ _ _ HZ8.out); have HY9 : Hid (w9.heap[w.heap.size + 1 + 1]? = some (.cells zEn 25 (0, 0))) := (by rw [← hw9]; exact (setRow_other _ _ _ _ (by omega)).trans HY8.out); have HB9 : Hid (Below w.heap.size w w9) := (by rw [← hw9]; exact below_setRow HB8.out (by omega) _); clear hw9))
  exact bodyPost_ret (aY (P := Tryz.prog) rfl _ _ (w.heap.size + 1 + 1) (w.heap.size + 1 + 1 + 1) 25 64 _ _ (0, 0) (0, 0) _ _ rfl HY9.out rfl HZ9.out Tryz.underlying25 rfl (aL _ _ _) Tryz.underlying64 rfl (aJ aD)) rfl (by rw [HVE.out]; exact SgR.err HB9.out)
 ·have HVL := zh hvl
  have h8 : m ≤ 8 := by have := nR hvl; rw [List.length_map, HL.out.len] at this; exact this
  have NB := zh (kS (vE hvl))
  have hn0 : n0 ≤ 100000000 := by
   have h1 := hvl
   unfold eY at h1
   simp only [Bool.and_eq_true, decide_eq_true_eq] at h1
   have := HP.out.len; omega
  clear hvl
  go_wp2_with fail
  obtain ⟨B, hBe⟩ : ∃ B, B = w1.heap.size := ⟨_, rfl⟩
  have uT : Hid (Blks B w1 w1 []) := Blks.start (Below.refl _ _) (Nat.le_of_eq hBe)
  have HLT : Hid (w.heap.size < B ∧ w.heap.size + 1 < B) := ⟨by have := HF1.out.k; omega, by have := HF1.out.k; omega⟩
  have PW : Hid (w.heap.size + 4 ≤ B) := by show _ ≤ _; have := HF1.out.k; omega
  have EE : Hid (∀ w', Below B w1 w' → Below w.heap.size w w') := fun w' hb => HF1.out.b.trans (hb.mono (Nat.le_of_lt HLT.out.1))
  have HCM : Hid (∀ w', Below B w1 w' → Calls Tryz.prog 54 #[.string t, .slice sp n0 cap] w' fun e w'' => e = .returned (.agg (dgA (dQ t b))) ∧ Below w'.heap.size w' w'') := fun w' hb => oW t sp n0 cap b w' (HUP.out _ (EE.out _ hb)).1 (HUP.out _ (EE.out _ hb)).2.2.1 (HUP.out _ (EE.out _ hb)).2.2.2
  have HCS : Hid (∀ w', Below B w1 w' → Calls Tryz.prog 68 #[.agg (sgL x h n).toArray, .agg (dgA (dQ t b))] w' fun e w'' => ∃ sp1 c1 sp2 c2, e = .returned (.tuple #[.agg (sgA x1 h1 n1), .agg (siA l1 (.slice sp1 N c1) (.slice sp2 M c2)), .int .i64 E]) ∧ OwnHv w'' w'.heap.size (.slice sp1 N c1) cl ∧ OwnHv w'' w'.heap.size (.slice sp2 M c2) pl ∧ Below w'.heap.size w' w'') := fun w' hb => HS.out.a w' (HUP.out _ (EE.out _ hb)).2.2.1 (HUP.out _ (EE.out _ hb)).2.2.2
  clear hBe hbe hbs
  generalize hMD : dQ t b = d at *
  go_cut [7, 8, 9] (fun s7 s8 s9 wx => ∃ (ga gb : Nat) (sp1 : Option Addr) (c1 : Nat) (sp2 : Option Addr) (c2 : Nat), s7 = .pointer (some ⟨ga, 0, none⟩) ∧ s8 = .pointer (some ⟨gb, 0, none⟩) ∧ s9 = .int .i64 E ∧ Hid (wx.heap[ga]? = some (.cells (sgA x1 h1 n1) 64 (0, 0)) ∧ wx.heap[gb]? = some (.cells (siA l1 (.slice sp1 N c1) (.slice sp2 M c2)) 60 (0, 0)) ∧ OwnHv wx B (.slice sp1 N c1) cl ∧ OwnHv wx B (.slice sp2 M c2) pl ∧ B ≤ ga ∧ B ≤ gb ∧ Below B w1 wx))
  case first =>
   clear HV HUP HP HPN HL IJ HINS HLNN HVL h8 NB hn0 HK HMO hMD EE HIE hk0 ht HS
   as_aux_lemma =>
    refine wp_region_held_drew (S := fun w' => Below B w1 w') (by kernel_rfl) uT.out.b.drew (fun hHeld => ?_)
    refine' zk 0 rfl (v := _) (yieldsIf_load_mid (by rfl) _ _ rfl _ _ rfl _ _ ?hS0n1 Tryz.underlying64 rfl (fY HX.out)) ?rest0n1
    case hS0n1 =>
     intro w' hSw
     exact aV (L := sgL x h n) ((hSw.block _ HLT.out.2).trans HF1.out.s)
    try simp only [Act.put, zA, zB, zC, zD, zE, zF]
    refine zv 1 rfl ?_
    refine zx 2 rfl (v := ?_) ?_ ?_; rotate_left
    ·intro w' hSw; have c0 := GN ((hSw.block _ HLT.out.1).trans HF1.out.e); go_simp; try with_reducible rfl
    refine zv 3 rfl ?_
    refine zx 4 rfl (v := ?_) ?_ ?_; rotate_left
    ·intro w' hSw; have c0 := pU ((hSw.block _ HLT.out.1).trans HF1.out.e); go_simp; try with_reducible rfl
    refine wpAnyH_ready (rs := [5, 11, 12]) (by kernel_rfl) (by simp) (AllReadyH.cons (o := _) rfl (fun K hK => ?_) (AllReadyH.cons (o := _) rfl (fun K hK => ?_) (AllReadyH.cons (o := _) rfl (fun K hK => ?_) AllReadyH.nil)))
    go_simp
    with_reducible refine (HCM.out _ (uT.out.drew).b).mono ?_
    rintro e v1 ⟨rfl, hb⟩
    have cW := zh (uT.out.call ((Below.refl _ _).drew.trans hb))
    clear hb
    go_wp2_with fail
    refine hK.out _ _ cW.out.b fun _ => ?_; clear hK K
    refine wpAnyH_ready (rs := [6, 11, 12]) (by kernel_rfl) (by simp) (AllReadyH.cons (o := _) rfl (fun K hK => ?_) (AllReadyH.cons (o := _) rfl (fun K hK => ?_) (AllReadyH.cons (o := _) rfl (fun K hK => ?_) AllReadyH.nil)))
    go_simp
    with_reducible refine (HCS.out _ (cW.out).b).mono ?_
    rintro e v2 ⟨sp1, c1, sp2, c2, rfl, hoc, hop, hb⟩
    have aW := zh (cW.out.call hb)
    have EK := zh (hoc.base (cW.out.k))
    have EI := zh (hop.base (cW.out.k))
    clear hb
    go_wp2_with fail
    refine hK.out _ _ aW.out.b fun _ => ?_; clear hK K
    refine zv 7 rfl ?_
    refine zv 8 rfl ?_
    refine zv 9 rfl ?_
    refine zv 10 rfl ?_
    refine zs 11 12 rfl (fun K hK => ?_) rfl (fun K hK => ?_)
    obtain ⟨ga, v3, hg, hw, aO, HEv3⟩ := aW.out.allocd (.cells (sgA bK 0 0) 64 (0, 0))
    go_simp
    try rw [hg]
    generalize hq : World.alloc v2 _ = q
    obtain rfl : v3 = q := hw.symm.trans hq
    clear hg hw hq
    have gV := zh (EK.out.below HEv3.out)
    have gU := zh (EI.out.below HEv3.out)
    refine hK.out _ _ aO.out.b fun _ => ?_; clear hK K
    refine zr 12 rfl (fun K hK => ?_)
    obtain ⟨gb, v4, hg, hw, aI, HEv4⟩ := aO.out.allocd (.cells (siA 0 aM aM) 60 (0, 0))
    go_simp
    try rw [hg]
    generalize hq : World.alloc v3 _ = q
    obtain rfl : v4 = q := hw.symm.trans hq
    clear hg hw hq
    have dB := zh (gV.out.below HEv4.out)
    have dA := zh (gU.out.below HEv4.out)
    refine hK.out _ _ aI.out.b fun _ => ?_; clear hK K
    refine zr 13 rfl (fun K hK => ?_)
    rw [if_pos (by rfl)]
    refine wp_store_row 64 _ _ rfl ga (sgA x1 h1 n1) rfl rfl 64 _ (aI.out.at 1 rfl) (aJ HX1.out) (by rw [aC aD, aC HX1.out]) (bA _ _ _) ?_
    generalize hw : World.setRow v4 _ _ = v5
    have aE := zh (aI.out.set 1 rfl (sgA x1 h1 n1))
    rw [hw] at aE
    have bJ := zh (dB.out.setRow (aI.out.at 1 rfl) (by decide) (sgA x1 h1 n1))
    rw [hw] at bJ
    have bH := zh (dA.out.setRow (aI.out.at 1 rfl) (by decide) (sgA x1 h1 n1))
    rw [hw] at bH
    clear hw
    refine hK.out _ _ aE.out.b fun _ => ?_; clear hK K
    refine zr 14 rfl (fun K hK => ?_)
    rw [if_pos (by rfl)]
    refine wp_store_row 60 _ _ rfl gb (siA l1 (.slice sp1 N c1) (.slice sp2 M c2)) rfl rfl 60 _ (aE.out.at 0 rfl) (aP _ _ _) rfl (bV _ _ _ _ _ _ _) ?_
    generalize hw : World.setRow v5 _ _ = v6
    have aF := zh (aE.out.set 0 rfl (siA l1 (.slice sp1 N c1) (.slice sp2 M c2)))
    rw [hw] at aF
    have bI := zh (bJ.out.setRow (aE.out.at 0 rfl) (by decide) (siA l1 (.slice sp1 N c1) (.slice sp2 M c2)))
    rw [hw] at bI
    have bG := zh (bH.out.setRow (aE.out.at 0 rfl) (by decide) (siA l1 (.slice sp1 N c1) (.slice sp2 M c2)))
    rw [hw] at bG
    clear hw
    refine hK.out _ _ aF.out.b fun _ => ?_; clear hK K
    refine zv 15 rfl ?_
    refine zd ?_ _
    go_wp2_with fail
    go_meet
    exact ⟨ga, gb, sp1, c1, sp2, c2, rfl, rfl, rfl, aF.out.at 1 rfl, aF.out.at 0 rfl, bI.out, bG.out, (aF.out.lt 1 rfl).1, (aF.out.lt 0 rfl).1, aF.out.b⟩
    obtain ⟨gb, v3, hg, hw, aO, HEv3⟩ := aW.out.allocd (.cells (siA 0 aM aM) 60 (0, 0))
    go_simp
    try rw [hg]
    generalize hq : World.alloc v2 _ = q
    obtain rfl : v3 = q := hw.symm.trans hq
    clear hg hw hq
    have gV := zh (EK.out.below HEv3.out)
    have gU := zh (EI.out.below HEv3.out)
    refine hK.out _ _ aO.out.b fun _ => ?_; clear hK K
    refine zr 11 rfl (fun K hK => ?_)
    obtain ⟨ga, v4, hg, hw, aI, HEv4⟩ := aO.out.allocd (.cells (sgA bK 0 0) 64 (0, 0))
    go_simp
    try rw [hg]
    generalize hq : World.alloc v3 _ = q
    obtain rfl : v4 = q := hw.symm.trans hq
    clear hg hw hq
    have dB := zh (gV.out.below HEv4.out)
    have dA := zh (gU.out.below HEv4.out)
    refine hK.out _ _ aI.out.b fun _ => ?_; clear hK K
    refine zr 13 rfl (fun K hK => ?_)
    rw [if_pos (by rfl)]
    refine wp_store_row 64 _ _ rfl ga (sgA x1 h1 n1) rfl rfl 64 _ (aI.out.at 0 rfl) (aJ HX1.out) (by rw [aC aD, aC HX1.out]) (bA _ _ _) ?_
    generalize hw : World.setRow v4 _ _ = v5
    have aE := zh (aI.out.set 0 rfl (sgA x1 h1 n1))
    rw [hw] at aE
    have bJ := zh (dB.out.setRow (aI.out.at 0 rfl) (by decide) (sgA x1 h1 n1))
    rw [hw] at bJ
    have bH := zh (dA.out.setRow (aI.out.at 0 rfl) (by decide) (sgA x1 h1 n1))
    rw [hw] at bH
    clear hw
    refine hK.out _ _ aE.out.b fun _ => ?_; clear hK K
    refine zr 14 rfl (fun K hK => ?_)
    rw [if_pos (by rfl)]
    refine wp_store_row 60 _ _ rfl gb (siA l1 (.slice sp1 N c1) (.slice sp2 M c2)) rfl rfl 60 _ (aE.out.at 1 rfl) (aP _ _ _) rfl (bV _ _ _ _ _ _ _) ?_
    generalize hw : World.setRow v5 _ _ = v6
    have aF := zh (aE.out.set 1 rfl (siA l1 (.slice sp1 N c1) (.slice sp2 M c2)))
    rw [hw] at aF
    have bI := zh (bJ.out.setRow (aE.out.at 1 rfl) (by decide) (siA l1 (.slice sp1 N c1) (.slice sp2 M c2)))
    rw [hw] at bI
    have bG := zh (bH.out.setRow (aE.out.at 1 rfl) (by decide) (siA l1 (.slice sp1 N c1) (.slice sp2 M c2)))
    rw [hw] at bG
    clear hw
    refine hK.out _ _ aF.out.b fun _ => ?_; clear hK K
    refine zv 15 rfl ?_
    refine zd ?_ _
    go_wp2_with fail
    go_meet
    exact ⟨ga, gb, sp1, c1, sp2, c2, rfl, rfl, rfl, aF.out.at 0 rfl, aF.out.at 1 rfl, bI.out, bG.out, (aF.out.lt 0 rfl).1, (aF.out.lt 1 rfl).1, aF.out.b⟩
    obtain ⟨ga, v2, hg, hw, aW, iH⟩ := cW.out.allocd (.cells (sgA bK 0 0) 64 (0, 0))
    go_simp
    try rw [hg]
    generalize hq : World.alloc v1 _ = q
    obtain rfl : v2 = q := hw.symm.trans hq
    clear hg hw hq
    refine hK.out _ _ aW.out.b fun _ => ?_; clear hK K
    refine zs 6 12 rfl (fun K hK => ?_) rfl (fun K hK => ?_)
    go_simp
    with_reducible refine (HCS.out _ (aW.out).b).mono ?_
    rintro e v3 ⟨sp1, c1, sp2, c2, rfl, hoc, hop, hb⟩
    have aO := zh (aW.out.call hb)
    have gV := zh (hoc.base (aW.out.k))
    have gU := zh (hop.base (aW.out.k))
    clear hb
    go_wp2_with fail
    refine hK.out _ _ aO.out.b fun _ => ?_; clear hK K
    refine zv 7 rfl ?_
    refine zv 8 rfl ?_
    refine zv 9 rfl ?_
    refine zv 10 rfl ?_
    refine zr 12 rfl (fun K hK => ?_)
    obtain ⟨gb, v4, hg, hw, aI, HEv4⟩ := aO.out.allocd (.cells (siA 0 aM aM) 60 (0, 0))
    go_simp
    try rw [hg]
    generalize hq : World.alloc v3 _ = q
    obtain rfl : v4 = q := hw.symm.trans hq
    clear hg hw hq
    have dB := zh (gV.out.below HEv4.out)
    have dA := zh (gU.out.below HEv4.out)
    refine hK.out _ _ aI.out.b fun _ => ?_; clear hK K
    refine zr 13 rfl (fun K hK => ?_)
    rw [if_pos (by rfl)]
    refine wp_store_row 64 _ _ rfl ga (sgA x1 h1 n1) rfl rfl 64 _ (aI.out.at 1 rfl) (aJ HX1.out) (by rw [aC aD, aC HX1.out]) (bA _ _ _) ?_
    generalize hw : World.setRow v4 _ _ = v5
    have aE := zh (aI.out.set 1 rfl (sgA x1 h1 n1))
    rw [hw] at aE
    have bJ := zh (dB.out.setRow (aI.out.at 1 rfl) (by decide) (sgA x1 h1 n1))
    rw [hw] at bJ
    have bH := zh (dA.out.setRow (aI.out.at 1 rfl) (by decide) (sgA x1 h1 n1))
    rw [hw] at bH
    clear hw
    refine hK.out _ _ aE.out.b fun _ => ?_; clear hK K
    refine zr 14 rfl (fun K hK => ?_)
    rw [if_pos (by rfl)]
    refine wp_store_row 60 _ _ rfl gb (siA l1 (.slice sp1 N c1) (.slice sp2 M c2)) rfl rfl 60 _ (aE.out.at 0 rfl) (aP _ _ _) rfl (bV _ _ _ _ _ _ _) ?_
    generalize hw : World.setRow v5 _ _ = v6
    have aF := zh (aE.out.set 0 rfl (siA l1 (.slice sp1 N c1) (.slice sp2 M c2)))
    rw [hw] at aF
    have bI := zh (bJ.out.setRow (aE.out.at 0 rfl) (by decide) (siA l1 (.slice sp1 N c1) (.slice sp2 M c2)))
    rw [hw] at bI
    have bG := zh (bH.out.setRow (aE.out.at 0 rfl) (by decide) (siA l1 (.slice sp1 N c1) (.slice sp2 M c2)))
    rw [hw] at bG
    clear hw
    refine hK.out _ _ aF.out.b fun _ => ?_; clear hK K
    refine zv 15 rfl ?_
    refine zd ?_ _
    go_wp2_with fail
    go_meet
    exact ⟨ga, gb, sp1, c1, sp2, c2, rfl, rfl, rfl, aF.out.at 1 rfl, aF.out.at 0 rfl, bI.out, bG.out, (aF.out.lt 1 rfl).1, (aF.out.lt 0 rfl).1, aF.out.b⟩
    obtain ⟨gb, v3, hg, hw, aO, HEv3⟩ := aW.out.allocd (.cells (siA 0 aM aM) 60 (0, 0))
    go_simp
    try rw [hg]
    generalize hq : World.alloc v2 _ = q
    obtain rfl : v3 = q := hw.symm.trans hq
    clear hg hw hq
    refine hK.out _ _ aO.out.b fun _ => ?_; clear hK K
    refine zr 6 rfl (fun K hK => ?_)
    go_simp
    with_reducible refine (HCS.out _ (aO.out).b).mono ?_
    rintro e v4 ⟨sp1, c1, sp2, c2, rfl, hoc, hop, hb⟩
    have aI := zh (aO.out.call hb)
    have dB := zh (hoc.base (aO.out.k))
    have dA := zh (hop.base (aO.out.k))
    clear hb
    go_wp2_with fail
    refine hK.out _ _ aI.out.b fun _ => ?_; clear hK K
    refine zv 7 rfl ?_
    refine zv 8 rfl ?_
    refine zv 9 rfl ?_
    refine zv 10 rfl ?_
    refine zr 13 rfl (fun K hK => ?_)
    rw [if_pos (by rfl)]
    refine wp_store_row 64 _ _ rfl ga (sgA x1 h1 n1) rfl rfl 64 _ (aI.out.at 1 rfl) (aJ HX1.out) (by rw [aC aD, aC HX1.out]) (bA _ _ _) ?_
    generalize hw : World.setRow v4 _ _ = v5
    have aE := zh (aI.out.set 1 rfl (sgA x1 h1 n1))
    rw [hw] at aE
    have bJ := zh (dB.out.setRow (aI.out.at 1 rfl) (by decide) (sgA x1 h1 n1))
    rw [hw] at bJ
    have bH := zh (dA.out.setRow (aI.out.at 1 rfl) (by decide) (sgA x1 h1 n1))
    rw [hw] at bH
    clear hw
    refine hK.out _ _ aE.out.b fun _ => ?_; clear hK K
    refine zr 14 rfl (fun K hK => ?_)
    rw [if_pos (by rfl)]
    refine wp_store_row 60 _ _ rfl gb (siA l1 (.slice sp1 N c1) (.slice sp2 M c2)) rfl rfl 60 _ (aE.out.at 0 rfl) (aP _ _ _) rfl (bV _ _ _ _ _ _ _) ?_
    generalize hw : World.setRow v5 _ _ = v6
    have aF := zh (aE.out.set 0 rfl (siA l1 (.slice sp1 N c1) (.slice sp2 M c2)))
    rw [hw] at aF
    have bI := zh (bJ.out.setRow (aE.out.at 0 rfl) (by decide) (siA l1 (.slice sp1 N c1) (.slice sp2 M c2)))
    rw [hw] at bI
    have bG := zh (bH.out.setRow (aE.out.at 0 rfl) (by decide) (siA l1 (.slice sp1 N c1) (.slice sp2 M c2)))
    rw [hw] at bG
    clear hw
    refine hK.out _ _ aF.out.b fun _ => ?_; clear hK K
    refine zv 15 rfl ?_
    refine zd ?_ _
    go_wp2_with fail
    go_meet
    exact ⟨ga, gb, sp1, c1, sp2, c2, rfl, rfl, rfl, aF.out.at 1 rfl, aF.out.at 0 rfl, bI.out, bG.out, (aF.out.lt 1 rfl).1, (aF.out.lt 0 rfl).1, aF.out.b⟩
    obtain ⟨gb, v2, hg, hw, aW, iH⟩ := cW.out.allocd (.cells (siA 0 aM aM) 60 (0, 0))
    go_simp
    try rw [hg]
    generalize hq : World.alloc v1 _ = q
    obtain rfl : v2 = q := hw.symm.trans hq
    clear hg hw hq
    refine hK.out _ _ aW.out.b fun _ => ?_; clear hK K
    refine zs 6 11 rfl (fun K hK => ?_) rfl (fun K hK => ?_)
    go_simp
    with_reducible refine (HCS.out _ (aW.out).b).mono ?_
    rintro e v3 ⟨sp1, c1, sp2, c2, rfl, hoc, hop, hb⟩
    have aO := zh (aW.out.call hb)
    have gV := zh (hoc.base (aW.out.k))
    have gU := zh (hop.base (aW.out.k))
    clear hb
    go_wp2_with fail
    refine hK.out _ _ aO.out.b fun _ => ?_; clear hK K
    refine zv 7 rfl ?_
    refine zv 8 rfl ?_
    refine zv 9 rfl ?_
    refine zv 10 rfl ?_
    refine zr 11 rfl (fun K hK => ?_)
    obtain ⟨ga, v4, hg, hw, aI, HEv4⟩ := aO.out.allocd (.cells (sgA bK 0 0) 64 (0, 0))
    go_simp
    try rw [hg]
    generalize hq : World.alloc v3 _ = q
    obtain rfl : v4 = q := hw.symm.trans hq
    clear hg hw hq
    have dB := zh (gV.out.below HEv4.out)
    have dA := zh (gU.out.below HEv4.out)
    refine hK.out _ _ aI.out.b fun _ => ?_; clear hK K
    refine zr 13 rfl (fun K hK => ?_)
    rw [if_pos (by rfl)]
    refine wp_store_row 64 _ _ rfl ga (sgA x1 h1 n1) rfl rfl 64 _ (aI.out.at 0 rfl) (aJ HX1.out) (by rw [aC aD, aC HX1.out]) (bA _ _ _) ?_
    generalize hw : World.setRow v4 _ _ = v5
    have aE := zh (aI.out.set 0 rfl (sgA x1 h1 n1))
    rw [hw] at aE
    have bJ := zh (dB.out.setRow (aI.out.at 0 rfl) (by decide) (sgA x1 h1 n1))
    rw [hw] at bJ
    have bH := zh (dA.out.setRow (aI.out.at 0 rfl) (by decide) (sgA x1 h1 n1))
    rw [hw] at bH
    clear hw
    refine hK.out _ _ aE.out.b fun _ => ?_; clear hK K
    refine zr 14 rfl (fun K hK => ?_)
    rw [if_pos (by rfl)]
    refine wp_store_row 60 _ _ rfl gb (siA l1 (.slice sp1 N c1) (.slice sp2 M c2)) rfl rfl 60 _ (aE.out.at 1 rfl) (aP _ _ _) rfl (bV _ _ _ _ _ _ _) ?_
    generalize hw : World.setRow v5 _ _ = v6
    have aF := zh (aE.out.set 1 rfl (siA l1 (.slice sp1 N c1) (.slice sp2 M c2)))
    rw [hw] at aF
    have bI := zh (bJ.out.setRow (aE.out.at 1 rfl) (by decide) (siA l1 (.slice sp1 N c1) (.slice sp2 M c2)))
    rw [hw] at bI
    have bG := zh (bH.out.setRow (aE.out.at 1 rfl) (by decide) (siA l1 (.slice sp1 N c1) (.slice sp2 M c2)))
    rw [hw] at bG
    clear hw
    refine hK.out _ _ aF.out.b fun _ => ?_; clear hK K
    refine zv 15 rfl ?_
    refine zd ?_ _
    go_wp2_with fail
    go_meet
    exact ⟨ga, gb, sp1, c1, sp2, c2, rfl, rfl, rfl, aF.out.at 0 rfl, aF.out.at 1 rfl, bI.out, bG.out, (aF.out.lt 0 rfl).1, (aF.out.lt 1 rfl).1, aF.out.b⟩
    obtain ⟨ga, v3, hg, hw, aO, HEv3⟩ := aW.out.allocd (.cells (sgA bK 0 0) 64 (0, 0))
    go_simp
    try rw [hg]
    generalize hq : World.alloc v2 _ = q
    obtain rfl : v3 = q := hw.symm.trans hq
    clear hg hw hq
    refine hK.out _ _ aO.out.b fun _ => ?_; clear hK K
    refine zr 6 rfl (fun K hK => ?_)
    go_simp
    with_reducible refine (HCS.out _ (aO.out).b).mono ?_
    rintro e v4 ⟨sp1, c1, sp2, c2, rfl, hoc, hop, hb⟩
    have aI := zh (aO.out.call hb)
    have dB := zh (hoc.base (aO.out.k))
    have dA := zh (hop.base (aO.out.k))
    clear hb
    go_wp2_with fail
    refine hK.out _ _ aI.out.b fun _ => ?_; clear hK K
    refine zv 7 rfl ?_
    refine zv 8 rfl ?_
    refine zv 9 rfl ?_
    refine zv 10 rfl ?_
    refine zr 13 rfl (fun K hK => ?_)
    rw [if_pos (by rfl)]
    refine wp_store_row 64 _ _ rfl ga (sgA x1 h1 n1) rfl rfl 64 _ (aI.out.at 0 rfl) (aJ HX1.out) (by rw [aC aD, aC HX1.out]) (bA _ _ _) ?_
    generalize hw : World.setRow v4 _ _ = v5
    have aE := zh (aI.out.set 0 rfl (sgA x1 h1 n1))
    rw [hw] at aE
    have bJ := zh (dB.out.setRow (aI.out.at 0 rfl) (by decide) (sgA x1 h1 n1))
    rw [hw] at bJ
    have bH := zh (dA.out.setRow (aI.out.at 0 rfl) (by decide) (sgA x1 h1 n1))
    rw [hw] at bH
    clear hw
    refine hK.out _ _ aE.out.b fun _ => ?_; clear hK K
    refine zr 14 rfl (fun K hK => ?_)
    rw [if_pos (by rfl)]
    refine wp_store_row 60 _ _ rfl gb (siA l1 (.slice sp1 N c1) (.slice sp2 M c2)) rfl rfl 60 _ (aE.out.at 1 rfl) (aP _ _ _) rfl (bV _ _ _ _ _ _ _) ?_
    generalize hw : World.setRow v5 _ _ = v6
    have aF := zh (aE.out.set 1 rfl (siA l1 (.slice sp1 N c1) (.slice sp2 M c2)))
    rw [hw] at aF
    have bI := zh (bJ.out.setRow (aE.out.at 1 rfl) (by decide) (siA l1 (.slice sp1 N c1) (.slice sp2 M c2)))
    rw [hw] at bI
    have bG := zh (bH.out.setRow (aE.out.at 1 rfl) (by decide) (siA l1 (.slice sp1 N c1) (.slice sp2 M c2)))
    rw [hw] at bG
    clear hw
    refine hK.out _ _ aF.out.b fun _ => ?_; clear hK K
    refine zv 15 rfl ?_
    refine zd ?_ _
    go_wp2_with fail
    go_meet
    exact ⟨ga, gb, sp1, c1, sp2, c2, rfl, rfl, rfl, aF.out.at 0 rfl, aF.out.at 1 rfl, bI.out, bG.out, (aF.out.lt 0 rfl).1, (aF.out.lt 1 rfl).1, aF.out.b⟩
    obtain ⟨ga, v1, hg, hw, cW, oG⟩ := uT.out.allocdD (.cells (sgA bK 0 0) 64 (0, 0))
    go_simp
    try rw [hg]
    generalize hq : World.drew (World.alloc w1 _) = q
    obtain rfl : v1 = q := hw.symm.trans hq
    clear hg hw hq
    refine hK.out _ _ cW.out.b fun _ => ?_; clear hK K
    refine zs 5 12 rfl (fun K hK => ?_) rfl (fun K hK => ?_)
    go_simp
    with_reducible refine (HCM.out _ (cW.out).b).mono ?_
    rintro e v2 ⟨rfl, hb⟩
    have aW := zh (cW.out.call hb)
    clear hb
    go_wp2_with fail
    refine hK.out _ _ aW.out.b fun _ => ?_; clear hK K
    refine zs 6 12 rfl (fun K hK => ?_) rfl (fun K hK => ?_)
    go_simp
    with_reducible refine (HCS.out _ (aW.out).b).mono ?_
    rintro e v3 ⟨sp1, c1, sp2, c2, rfl, hoc, hop, hb⟩
    have aO := zh (aW.out.call hb)
    have gV := zh (hoc.base (aW.out.k))
    have gU := zh (hop.base (aW.out.k))
    clear hb
    go_wp2_with fail
    refine hK.out _ _ aO.out.b fun _ => ?_; clear hK K
    refine zv 7 rfl ?_
    refine zv 8 rfl ?_
    refine zv 9 rfl ?_
    refine zv 10 rfl ?_
    refine zr 12 rfl (fun K hK => ?_)
    obtain ⟨gb, v4, hg, hw, aI, HEv4⟩ := aO.out.allocd (.cells (siA 0 aM aM) 60 (0, 0))
    go_simp
    try rw [hg]
    generalize hq : World.alloc v3 _ = q
    obtain rfl : v4 = q := hw.symm.trans hq
    clear hg hw hq
    have dB := zh (gV.out.below HEv4.out)
    have dA := zh (gU.out.below HEv4.out)
    refine hK.out _ _ aI.out.b fun _ => ?_; clear hK K
    refine zr 13 rfl (fun K hK => ?_)
    rw [if_pos (by rfl)]
    refine wp_store_row 64 _ _ rfl ga (sgA x1 h1 n1) rfl rfl 64 _ (aI.out.at 1 rfl) (aJ HX1.out) (by rw [aC aD, aC HX1.out]) (bA _ _ _) ?_
    generalize hw : World.setRow v4 _ _ = v5
    have aE := zh (aI.out.set 1 rfl (sgA x1 h1 n1))
    rw [hw] at aE
    have bJ := zh (dB.out.setRow (aI.out.at 1 rfl) (by decide) (sgA x1 h1 n1))
    rw [hw] at bJ
    have bH := zh (dA.out.setRow (aI.out.at 1 rfl) (by decide) (sgA x1 h1 n1))
    rw [hw] at bH
    clear hw
    refine hK.out _ _ aE.out.b fun _ => ?_; clear hK K
    refine zr 14 rfl (fun K hK => ?_)
    rw [if_pos (by rfl)]
    refine wp_store_row 60 _ _ rfl gb (siA l1 (.slice sp1 N c1) (.slice sp2 M c2)) rfl rfl 60 _ (aE.out.at 0 rfl) (aP _ _ _) rfl (bV _ _ _ _ _ _ _) ?_
    generalize hw : World.setRow v5 _ _ = v6
    have aF := zh (aE.out.set 0 rfl (siA l1 (.slice sp1 N c1) (.slice sp2 M c2)))
    rw [hw] at aF
    have bI := zh (bJ.out.setRow (aE.out.at 0 rfl) (by decide) (siA l1 (.slice sp1 N c1) (.slice sp2 M c2)))
    rw [hw] at bI
    have bG := zh (bH.out.setRow (aE.out.at 0 rfl) (by decide) (siA l1 (.slice sp1 N c1) (.slice sp2 M c2)))
    rw [hw] at bG
    clear hw
    refine hK.out _ _ aF.out.b fun _ => ?_; clear hK K
    refine zv 15 rfl ?_
    refine zd ?_ _
    go_wp2_with fail
    go_meet
    exact ⟨ga, gb, sp1, c1, sp2, c2, rfl, rfl, rfl, aF.out.at 1 rfl, aF.out.at 0 rfl, bI.out, bG.out, (aF.out.lt 1 rfl).1, (aF.out.lt 0 rfl).1, aF.out.b⟩
    obtain ⟨gb, v3, hg, hw, aO, HEv3⟩ := aW.out.allocd (.cells (siA 0 aM aM) 60 (0, 0))
    go_simp
    try rw [hg]
    generalize hq : World.alloc v2 _ = q
    obtain rfl : v3 = q := hw.symm.trans hq
    clear hg hw hq
    refine hK.out _ _ aO.out.b fun _ => ?_; clear hK K
    refine zr 6 rfl (fun K hK => ?_)
    go_simp
    with_reducible refine (HCS.out _ (aO.out).b).mono ?_
    rintro e v4 ⟨sp1, c1, sp2, c2, rfl, hoc, hop, hb⟩
    have aI := zh (aO.out.call hb)
    have dB := zh (hoc.base (aO.out.k))
    have dA := zh (hop.base (aO.out.k))
    clear hb
    go_wp2_with fail
    refine hK.out _ _ aI.out.b fun _ => ?_; clear hK K
    refine zv 7 rfl ?_
    refine zv 8 rfl ?_
    refine zv 9 rfl ?_
    refine zv 10 rfl ?_
    refine zr 13 rfl (fun K hK => ?_)
    rw [if_pos (by rfl)]
    refine wp_store_row 64 _ _ rfl ga (sgA x1 h1 n1) rfl rfl 64 _ (aI.out.at 1 rfl) (aJ HX1.out) (by rw [aC aD, aC HX1.out]) (bA _ _ _) ?_
    generalize hw : World.setRow v4 _ _ = v5
    have aE := zh (aI.out.set 1 rfl (sgA x1 h1 n1))
    rw [hw] at aE
    have bJ := zh (dB.out.setRow (aI.out.at 1 rfl) (by decide) (sgA x1 h1 n1))
    rw [hw] at bJ
    have bH := zh (dA.out.setRow (aI.out.at 1 rfl) (by decide) (sgA x1 h1 n1))
    rw [hw] at bH
    clear hw
    refine hK.out _ _ aE.out.b fun _ => ?_; clear hK K
    refine zr 14 rfl (fun K hK => ?_)
    rw [if_pos (by rfl)]
    refine wp_store_row 60 _ _ rfl gb (siA l1 (.slice sp1 N c1) (.slice sp2 M c2)) rfl rfl 60 _ (aE.out.at 0 rfl) (aP _ _ _) rfl (bV _ _ _ _ _ _ _) ?_
    generalize hw : World.setRow v5 _ _ = v6
    have aF := zh (aE.out.set 0 rfl (siA l1 (.slice sp1 N c1) (.slice sp2 M c2)))
    rw [hw] at aF
    have bI := zh (bJ.out.setRow (aE.out.at 0 rfl) (by decide) (siA l1 (.slice sp1 N c1) (.slice sp2 M c2)))
    rw [hw] at bI
    have bG := zh (bH.out.setRow (aE.out.at 0 rfl) (by decide) (siA l1 (.slice sp1 N c1) (.slice sp2 M c2)))
    rw [hw] at bG
    clear hw
    refine hK.out _ _ aF.out.b fun _ => ?_; clear hK K
    refine zv 15 rfl ?_
    refine zd ?_ _
    go_wp2_with fail
    go_meet
    exact ⟨ga, gb, sp1, c1, sp2, c2, rfl, rfl, rfl, aF.out.at 1 rfl, aF.out.at 0 rfl, bI.out, bG.out, (aF.out.lt 1 rfl).1, (aF.out.lt 0 rfl).1, aF.out.b⟩
    obtain ⟨gb, v2, hg, hw, aW, iH⟩ := cW.out.allocd (.cells (siA 0 aM aM) 60 (0, 0))
    go_simp
    try rw [hg]
    generalize hq : World.alloc v1 _ = q
    obtain rfl : v2 = q := hw.symm.trans hq
    clear hg hw hq
    refine hK.out _ _ aW.out.b fun _ => ?_; clear hK K
    refine zr 5 rfl (fun K hK => ?_)
    go_simp
    with_reducible refine (HCM.out _ (aW.out).b).mono ?_
    rintro e v3 ⟨rfl, hb⟩
    have aO := zh (aW.out.call hb)
    clear hb
    go_wp2_with fail
    refine hK.out _ _ aO.out.b fun _ => ?_; clear hK K
    refine zr 6 rfl (fun K hK => ?_)
    go_simp
    with_reducible refine (HCS.out _ (aO.out).b).mono ?_
    rintro e v4 ⟨sp1, c1, sp2, c2, rfl, hoc, hop, hb⟩
    have aI := zh (aO.out.call hb)
    have dB := zh (hoc.base (aO.out.k))
    have dA := zh (hop.base (aO.out.k))
    clear hb
    go_wp2_with fail
    refine hK.out _ _ aI.out.b fun _ => ?_; clear hK K
    refine zv 7 rfl ?_
    refine zv 8 rfl ?_
    refine zv 9 rfl ?_
    refine zv 10 rfl ?_
    refine zr 13 rfl (fun K hK => ?_)
    rw [if_pos (by rfl)]
    refine wp_store_row 64 _ _ rfl ga (sgA x1 h1 n1) rfl rfl 64 _ (aI.out.at 1 rfl) (aJ HX1.out) (by rw [aC aD, aC HX1.out]) (bA _ _ _) ?_
    generalize hw : World.setRow v4 _ _ = v5
    have aE := zh (aI.out.set 1 rfl (sgA x1 h1 n1))
    rw [hw] at aE
    have bJ := zh (dB.out.setRow (aI.out.at 1 rfl) (by decide) (sgA x1 h1 n1))
    rw [hw] at bJ
    have bH := zh (dA.out.setRow (aI.out.at 1 rfl) (by decide) (sgA x1 h1 n1))
    rw [hw] at bH
    clear hw
    refine hK.out _ _ aE.out.b fun _ => ?_; clear hK K
    refine zr 14 rfl (fun K hK => ?_)
    rw [if_pos (by rfl)]
    refine wp_store_row 60 _ _ rfl gb (siA l1 (.slice sp1 N c1) (.slice sp2 M c2)) rfl rfl 60 _ (aE.out.at 0 rfl) (aP _ _ _) rfl (bV _ _ _ _ _ _ _) ?_
    generalize hw : World.setRow v5 _ _ = v6
    have aF := zh (aE.out.set 0 rfl (siA l1 (.slice sp1 N c1) (.slice sp2 M c2)))
    rw [hw] at aF
    have bI := zh (bJ.out.setRow (aE.out.at 0 rfl) (by decide) (siA l1 (.slice sp1 N c1) (.slice sp2 M c2)))
    rw [hw] at bI
    have bG := zh (bH.out.setRow (aE.out.at 0 rfl) (by decide) (siA l1 (.slice sp1 N c1) (.slice sp2 M c2)))
    rw [hw] at bG
    clear hw
    refine hK.out _ _ aF.out.b fun _ => ?_; clear hK K
    refine zv 15 rfl ?_
    refine zd ?_ _
    go_wp2_with fail
    go_meet
    exact ⟨ga, gb, sp1, c1, sp2, c2, rfl, rfl, rfl, aF.out.at 1 rfl, aF.out.at 0 rfl, bI.out, bG.out, (aF.out.lt 1 rfl).1, (aF.out.lt 0 rfl).1, aF.out.b⟩
    obtain ⟨gb, v1, hg, hw, cW, oG⟩ := uT.out.allocdD (.cells (siA 0 aM aM) 60 (0, 0))
    go_simp
    try rw [hg]
    generalize hq : World.drew (World.alloc w1 _) = q
    obtain rfl : v1 = q := hw.symm.trans hq
    clear hg hw hq
    refine hK.out _ _ cW.out.b fun _ => ?_; clear hK K
    refine zs 5 11 rfl (fun K hK => ?_) rfl (fun K hK => ?_)
    go_simp
    with_reducible refine (HCM.out _ (cW.out).b).mono ?_
    rintro e v2 ⟨rfl, hb⟩
    have aW := zh (cW.out.call hb)
    clear hb
    go_wp2_with fail
    refine hK.out _ _ aW.out.b fun _ => ?_; clear hK K
    refine zs 6 11 rfl (fun K hK => ?_) rfl (fun K hK => ?_)
    go_simp
    with_reducible refine (HCS.out _ (aW.out).b).mono ?_
    rintro e v3 ⟨sp1, c1, sp2, c2, rfl, hoc, hop, hb⟩
    have aO := zh (aW.out.call hb)
    have gV := zh (hoc.base (aW.out.k))
    have gU := zh (hop.base (aW.out.k))
    clear hb
    go_wp2_with fail
    refine hK.out _ _ aO.out.b fun _ => ?_; clear hK K
    refine zv 7 rfl ?_
    refine zv 8 rfl ?_
    refine zv 9 rfl ?_
    refine zv 10 rfl ?_
    refine zr 11 rfl (fun K hK => ?_)
    obtain ⟨ga, v4, hg, hw, aI, HEv4⟩ := aO.out.allocd (.cells (sgA bK 0 0) 64 (0, 0))
    go_simp
    try rw [hg]
    generalize hq : World.alloc v3 _ = q
    obtain rfl : v4 = q := hw.symm.trans hq
    clear hg hw hq
    have dB := zh (gV.out.below HEv4.out)
    have dA := zh (gU.out.below HEv4.out)
    refine hK.out _ _ aI.out.b fun _ => ?_; clear hK K
    refine zr 13 rfl (fun K hK => ?_)
    rw [if_pos (by rfl)]
    refine wp_store_row 64 _ _ rfl ga (sgA x1 h1 n1) rfl rfl 64 _ (aI.out.at 0 rfl) (aJ HX1.out) (by rw [aC aD, aC HX1.out]) (bA _ _ _) ?_
    generalize hw : World.setRow v4 _ _ = v5
    have aE := zh (aI.out.set 0 rfl (sgA x1 h1 n1))
    rw [hw] at aE
    have bJ := zh (dB.out.setRow (aI.out.at 0 rfl) (by decide) (sgA x1 h1 n1))
    rw [hw] at bJ
    have bH := zh (dA.out.setRow (aI.out.at 0 rfl) (by decide) (sgA x1 h1 n1))
    rw [hw] at bH
    clear hw
    refine hK.out _ _ aE.out.b fun _ => ?_; clear hK K
    refine zr 14 rfl (fun K hK => ?_)
    rw [if_pos (by rfl)]
    refine wp_store_row 60 _ _ rfl gb (siA l1 (.slice sp1 N c1) (.slice sp2 M c2)) rfl rfl 60 _ (aE.out.at 1 rfl) (aP _ _ _) rfl (bV _ _ _ _ _ _ _) ?_
    generalize hw : World.setRow v5 _ _ = v6
    have aF := zh (aE.out.set 1 rfl (siA l1 (.slice sp1 N c1) (.slice sp2 M c2)))
    rw [hw] at aF
    have bI := zh (bJ.out.setRow (aE.out.at 1 rfl) (by decide) (siA l1 (.slice sp1 N c1) (.slice sp2 M c2)))
    rw [hw] at bI
    have bG := zh (bH.out.setRow (aE.out.at 1 rfl) (by decide) (siA l1 (.slice sp1 N c1) (.slice sp2 M c2)))
    rw [hw] at bG
    clear hw
    refine hK.out _ _ aF.out.b fun _ => ?_; clear hK K
    refine zv 15 rfl ?_
    refine zd ?_ _
    go_wp2_with fail
    go_meet
    exact ⟨ga, gb, sp1, c1, sp2, c2, rfl, rfl, rfl, aF.out.at 0 rfl, aF.out.at 1 rfl, bI.out, bG.out, (aF.out.lt 0 rfl).1, (aF.out.lt 1 rfl).1, aF.out.b⟩
    obtain ⟨ga, v3, hg, hw, aO, HEv3⟩ := aW.out.allocd (.cells (sgA bK 0 0) 64 (0, 0))
    go_simp
    try rw [hg]
    generalize hq : World.alloc v2 _ = q
    obtain rfl : v3 = q := hw.symm.trans hq
    clear hg hw hq
    refine hK.out _ _ aO.out.b fun _ => ?_; clear hK K
    refine zr 6 rfl (fun K hK => ?_)
    go_simp
    with_reducible refine (HCS.out _ (aO.out).b).mono ?_
    rintro e v4 ⟨sp1, c1, sp2, c2, rfl, hoc, hop, hb⟩
    have aI := zh (aO.out.call hb)
    have dB := zh (hoc.base (aO.out.k))
    have dA := zh (hop.base (aO.out.k))
    clear hb
    go_wp2_with fail
    refine hK.out _ _ aI.out.b fun _ => ?_; clear hK K
    refine zv 7 rfl ?_
    refine zv 8 rfl ?_
    refine zv 9 rfl ?_
    refine zv 10 rfl ?_
    refine zr 13 rfl (fun K hK => ?_)
    rw [if_pos (by rfl)]
    refine wp_store_row 64 _ _ rfl ga (sgA x1 h1 n1) rfl rfl 64 _ (aI.out.at 0 rfl) (aJ HX1.out) (by rw [aC aD, aC HX1.out]) (bA _ _ _) ?_
    generalize hw : World.setRow v4 _ _ = v5
    have aE := zh (aI.out.set 0 rfl (sgA x1 h1 n1))
    rw [hw] at aE
    have bJ := zh (dB.out.setRow (aI.out.at 0 rfl) (by decide) (sgA x1 h1 n1))
    rw [hw] at bJ
    have bH := zh (dA.out.setRow (aI.out.at 0 rfl) (by decide) (sgA x1 h1 n1))
    rw [hw] at bH
    clear hw
    refine hK.out _ _ aE.out.b fun _ => ?_; clear hK K
    refine zr 14 rfl (fun K hK => ?_)
    rw [if_pos (by rfl)]
    refine wp_store_row 60 _ _ rfl gb (siA l1 (.slice sp1 N c1) (.slice sp2 M c2)) rfl rfl 60 _ (aE.out.at 1 rfl) (aP _ _ _) rfl (bV _ _ _ _ _ _ _) ?_
    generalize hw : World.setRow v5 _ _ = v6
    have aF := zh (aE.out.set 1 rfl (siA l1 (.slice sp1 N c1) (.slice sp2 M c2)))
    rw [hw] at aF
    have bI := zh (bJ.out.setRow (aE.out.at 1 rfl) (by decide) (siA l1 (.slice sp1 N c1) (.slice sp2 M c2)))
    rw [hw] at bI
    have bG := zh (bH.out.setRow (aE.out.at 1 rfl) (by decide) (siA l1 (.slice sp1 N c1) (.slice sp2 M c2)))
    rw [hw] at bG
    clear hw
    refine hK.out _ _ aF.out.b fun _ => ?_; clear hK K
    refine zv 15 rfl ?_
    refine zd ?_ _
    go_wp2_with fail
    go_meet
    exact ⟨ga, gb, sp1, c1, sp2, c2, rfl, rfl, rfl, aF.out.at 0 rfl, aF.out.at 1 rfl, bI.out, bG.out, (aF.out.lt 0 rfl).1, (aF.out.lt 1 rfl).1, aF.out.b⟩
    obtain ⟨ga, v2, hg, hw, aW, iH⟩ := cW.out.allocd (.cells (sgA bK 0 0) 64 (0, 0))
    go_simp
    try rw [hg]
    generalize hq : World.alloc v1 _ = q
    obtain rfl : v2 = q := hw.symm.trans hq
    clear hg hw hq
    refine hK.out _ _ aW.out.b fun _ => ?_; clear hK K
    refine zr 5 rfl (fun K hK => ?_)
    go_simp
    with_reducible refine (HCM.out _ (aW.out).b).mono ?_
    rintro e v3 ⟨rfl, hb⟩
    have aO := zh (aW.out.call hb)
    clear hb
    go_wp2_with fail
    refine hK.out _ _ aO.out.b fun _ => ?_; clear hK K
    refine zr 6 rfl (fun K hK => ?_)
    go_simp
    with_reducible refine (HCS.out _ (aO.out).b).mono ?_
    rintro e v4 ⟨sp1, c1, sp2, c2, rfl, hoc, hop, hb⟩
    have aI := zh (aO.out.call hb)
    have dB := zh (hoc.base (aO.out.k))
    have dA := zh (hop.base (aO.out.k))
    clear hb
    go_wp2_with fail
    refine hK.out _ _ aI.out.b fun _ => ?_; clear hK K
    refine zv 7 rfl ?_
    refine zv 8 rfl ?_
    refine zv 9 rfl ?_
    refine zv 10 rfl ?_
    refine zr 13 rfl (fun K hK => ?_)
    rw [if_pos (by rfl)]
    refine wp_store_row 64 _ _ rfl ga (sgA x1 h1 n1) rfl rfl 64 _ (aI.out.at 0 rfl) (aJ HX1.out) (by rw [aC aD, aC HX1.out]) (bA _ _ _) ?_
    generalize hw : World.setRow v4 _ _ = v5
    have aE := zh (aI.out.set 0 rfl (sgA x1 h1 n1))
    rw [hw] at aE
    have bJ := zh (dB.out.setRow (aI.out.at 0 rfl) (by decide) (sgA x1 h1 n1))
    rw [hw] at bJ
    have bH := zh (dA.out.setRow (aI.out.at 0 rfl) (by decide) (sgA x1 h1 n1))
    rw [hw] at bH
    clear hw
    refine hK.out _ _ aE.out.b fun _ => ?_; clear hK K
    refine zr 14 rfl (fun K hK => ?_)
    rw [if_pos (by rfl)]
    refine wp_store_row 60 _ _ rfl gb (siA l1 (.slice sp1 N c1) (.slice sp2 M c2)) rfl rfl 60 _ (aE.out.at 1 rfl) (aP _ _ _) rfl (bV _ _ _ _ _ _ _) ?_
    generalize hw : World.setRow v5 _ _ = v6
    have aF := zh (aE.out.set 1 rfl (siA l1 (.slice sp1 N c1) (.slice sp2 M c2)))
    rw [hw] at aF
    have bI := zh (bJ.out.setRow (aE.out.at 1 rfl) (by decide) (siA l1 (.slice sp1 N c1) (.slice sp2 M c2)))
    rw [hw] at bI
    have bG := zh (bH.out.setRow (aE.out.at 1 rfl) (by decide) (siA l1 (.slice sp1 N c1) (.slice sp2 M c2)))
    rw [hw] at bG
    clear hw
    refine hK.out _ _ aF.out.b fun _ => ?_; clear hK K
    refine zv 15 rfl ?_
    refine zd ?_ _
    go_wp2_with fail
    go_meet
    exact ⟨ga, gb, sp1, c1, sp2, c2, rfl, rfl, rfl, aF.out.at 0 rfl, aF.out.at 1 rfl, bI.out, bG.out, (aF.out.lt 0 rfl).1, (aF.out.lt 1 rfl).1, aF.out.b⟩
  case rest =>
  obtain ⟨ga, gb, sp1, c1, sp2, c2, rfl, rfl, rfl, HC1⟩ := hcut
  have HFc := zh (HF1.out.belowB HC1.out.2.2.2.2.2.2 PW.out)
  have HGA := zh HC1.out.1; have HGB := zh HC1.out.2.1; have HOC := zh HC1.out.2.2.1; have HOP := zh HC1.out.2.2.2.1
  have hga := HC1.out.2.2.2.2.1; have hgb := HC1.out.2.2.2.2.2.1
  have hBk := PW.out
  have hgal := (Array.getElem?_eq_some_iff.1 HGA.out).1; have hgbl := (Array.getElem?_eq_some_iff.1 HGB.out).1
  clear HC1 HCM HCS uT HF1 EE
  have hbe := kH
  have hbs := fJ
  rcases HS.out.k with ⟨hE, rfl, rfl, rfl⟩ | ⟨rfl, hk, leaf, rfl, rfl, hk6, hlf, rfl, rfl, rfl, rfl, rfl, rfl, rfl, rfl⟩
  ·have HVE : Hid (V = uX E) := by
    have := IS (x := x) HVL.out (show sgE h n ≠ 0 by rw [← HS.out.e]; exact hE)
    rw [HV.out] at this
    rw [HS.out.e]; exact this
   have hq : (E == 0) = false := by simpa using hE
   clear hE
   go_wp2_with (first
    | (refine wpList_store_row rfl 25 _ _ rfl (w.heap.size + 1 + 1) zEn rfl rfl 25 _ HFc.out.y (aL _ _ _) rfl (cJ _ _ _ _ _ _ _) ?_; generalize hw8 : World.setRow wc _ _ = w8; have HY8 : Hid (w8.heap[w.heap.size + 1 + 1]? = some (.cells zEn 25 (0, 0))) := (by rw [← hw8]; exact setRow_heap _ _ _ _ _ _ HFc.out.y); have HZ8 : Hid (w8.heap[w.heap.size + 1 + 1 + 1]? = some (.cells (sgA bK 0 0) 64 (0, 0))) := (by rw [← hw8]; exact (setRow_other _ _ _ _ (by omega)).trans HFc.out.z); have HB8 : Hid (Below w.heap.size w w8) := (by rw [← hw8]; exact below_setRow HFc.out.b (by omega) _); clear hw8)
    | (refine wpList_store_row rfl 64 _ _ rfl (w.heap.size + 1 + 1 + 1) (sgA bK 0 0) rfl rfl 64 _ HZ8.out (aJ aD) rfl (bA _ _ _) ?_; generalize hw9 : World.setRow w8 _ _ = w9; have HZ9 : Hid (w9.heap[w.heap.size + 1 + 1 + 1]? = some (.cells (sgA bK 0 0) 64 (0, 0))) := (by rw [← hw9]; exact setRow_heap _ _ _ _ _ _ HZ8.out); have HY9 : Hid (w9.heap[w.heap.size + 1 + 1]? = some (.cells zEn 25 (0, 0))) := (by rw [← hw9]; exact (setRow_other _ _ _ _ (by omega)).trans HY8.out); have HB9 : Hid (Below w.heap.size w w9) := (by rw [← hw9]; exact below_setRow HB8.out (by omega) _); clear hw9))
   exact bodyPost_ret (aY (P := Tryz.prog) rfl _ _ (w.heap.size + 1 + 1) (w.heap.size + 1 + 1 + 1) 25 64 _ _ (0, 0) (0, 0) _ _ rfl HY9.out rfl HZ9.out Tryz.underlying25 rfl (aL _ _ _) Tryz.underlying64 rfl (aJ aD)) rfl (by rw [HVE.out]; exact SgR.err HB9.out)
  ·-- MARKOK
   have HE0 : Hid (sgE (hk : Int) (leaf : Int) = 0) := HS.out.e.symm
   have PU : Hid (kY x (hk : Int) (leaf : Int) d = ⟨hk, iO x hk 0, leaf, fF x leaf d, dM x hk leaf⟩) := by show _ = _; unfold kY; rw [Int.toNat_natCast, Int.toNat_natCast]
   clear HS hbe hbs
   have cH := AL HX.out HFc.out.s
   have HXS := zh (MZ HFc.out.s)
   have HIX := zh (cQ HX.out)
   have HUPC := zh (HUP.out _ HFc.out.b)
   have HCN := zh (LA x hk wc HX.out hk6 HUPC.out.2.2.1 HUPC.out.2.2.2)
   go_wp2_with (refine wpList_load_mid rfl 54 _ rfl (w.heap.size + 1) 0 rfl _ _ HXS.out Tryz.underlying54 rfl HIX.out ?_)
   refine HCN.out.mono ?_
   rintro e w2 ⟨rfl, hb⟩
   have HB2 := zh hb
   clear hb cH HCN HXS HUPC
   have HNK := zh (fX x hk 0)
   generalize hr : iO x hk 0 = r at *
   have HRE := zh hr
   clear hr
   have HZP := zh (PkRow.new w2 0 bK)
   have HRP := zh (PkRow.new w2 hk r)
   go_upto_region 7 with (refine wpList_store_row rfl 56 _ _ rfl w2.heap.size _ rfl rfl 56 _ HZP.out.k (eI HNK.out) (by rw [iW HNK.out]; rfl) (xM _ _) ?_; rw [bW]; generalize hw3 : World.alloc w2 _ = w3; have HP3 : Hid (PkRow w2 hk r w3) := (by rw [← hw3]; exact HRP.out); clear hw3 HZP HRP)
   have HB3 : Hid (Below wc.heap.size wc w3) := HB2.out.trans (HP3.out.b.mono HB2.out.size)
   have HGB3 : Hid (w3.heap[gb]? = some (.cells (siA (leaf : Int) (.slice sp1 68 c1) (.slice sp2 hk c2)) 60 (0, 0))) := (HB3.out.block _ hgbl).trans HGB.out
   have hs2 := HB2.out.size
   obtain ⟨X, hX⟩ : ∃ X : Sg, X = ⟨hk, r, leaf, sp1, 68, c1, fF x leaf d, sp2, hk, c2, dM x hk leaf⟩ := ⟨_, rfl⟩
   have HXO : Hid (OkG X) := by rw [hX]; exact HNK.out
   have HXP : Hid (pg X = kY x hk leaf d) := by rw [hX, PU.out]; rfl
   have HXT : Hid (SgT wc B X) := by rw [hX]; exact ⟨HNK.out, HOC.out, HOP.out, jY _ _ _, iM _ _ _⟩
   have HBX : Hid (∀ w', (Instr.build 62 #[(0, .agg (pkA (hk : Int) r)), (1, .agg (siA (leaf : Int) (.slice sp1 68 c1) (.slice sp2 hk c2)))]).run Tryz.prog w' = .ok (.agg (bD X).toArray) w') := fun w' => by have h := JI (⟨hk, r, leaf, sp1, 68, c1, fF x leaf d, sp2, hk, c2, dM x hk leaf⟩ : Sg) HNK.out w'; rw [hX]; exact h
   clear hX PU HRE
   have HZG := zh (heap_alloc_new w3 (.cells zG.toArray 62))
   go_upto_region 8 with (first
    | (refine wpList_load_row rfl 56 _ rfl w2.heap.size rfl 56 _ (0, 0) _ HP3.out.k Tryz.underlying56 rfl (eI HNK.out) ?_)
    | (refine wpList_load_row rfl 60 _ rfl gb rfl 60 _ (0, 0) _ HGB3.out Tryz.underlying60 rfl (aP _ _ _) ?_)
    | (refine cM rfl 62 [(0, .tmp 45), (1, .tmp 46)] rfl [(0, .agg (pkA (hk : Int) r)), (1, .agg (siA (leaf : Int) (.slice sp1 68 c1) (.slice sp2 hk c2)))] rfl _ (HBX.out _) ?_)
    | (refine wpList_store_row rfl 62 _ _ rfl w3.heap.size _ rfl rfl 62 _ HZG.out (eM HXO.out) (jZ HXO.out) (eU X) ?_; rw [bW]; generalize hw4 : World.alloc w3 _ = w4; have HG4 : Hid (GB w4 w3.heap.size X) := (by rw [← hw4]; exact GB.new w3 X); have HB34 : Hid (Below w3.heap.size w3 w4) := (by rw [← hw4]; exact aB _ _); have hs4 : w3.heap.size < w4.heap.size := (by rw [← hw4]; simp); clear hw4))
   obtain ⟨gx, hgx⟩ : ∃ gx, gx = w3.heap.size := ⟨_, rfl⟩
   rw [← hgx]
   have HG4' : Hid (GB w4 gx X) := by rw [hgx]; exact HG4.out
   have hgx4 : gx < w4.heap.size := by omega
   have hgxc : wc.heap.size ≤ gx := by have := HB3.out.size; omega
   clear HG4 HZG HBX HGB3 HP3 HGB
   have HB4 : Hid (Below wc.heap.size wc w4) := HB3.out.trans (HB34.out.mono HB3.out.size)
   have HF4 := zh (HFc.out.below HB4.out)
   have HUP4 := zh (HUP.out _ HF4.out.b)
   clear hgx HB34 HB3 hs4 HB2 hs2
   have cS := kP HF4.out.e
   have HCP := zh (tN sq m cq l X w4 HUP4.out.2.1 NB.out HXO.out (by omega) HUP4.out.2.2.1 HUP4.out.2.2.2)
   go_wp2_with (refine wpList_load_row rfl 62 _ rfl gx rfl 62 _ (0, 0) _ HG4'.out Tryz.underlying62 rfl (eM HXO.out) ?_)
   refine HCP.out.mono ?_
   rintro e w5 ⟨k, hkm, rfl, hlo, hhi, hb⟩
   have HB5 : Hid (Below w4.heap.size w4 w5) := hb
   have HF5 := zh (HF4.out.below hb)
   have HFH := zh (DG NB.out hlo hhi)
   have HIA := zh (wK (by rw [List.length_map, HL.out.len]; exact hkm) hlo hhi)
   clear hb hlo hhi HCP cS HUP4
   rw [HXP.out] at HFH HIA
   rw [HXP.out, HFH.out]
   have HG5 : Hid (GB w5 gx X) := HG4'.out.below HB5.out hgx4
   have hgx5 : gx < w5.heap.size := by have := HB5.out.size; omega
   have IH : Hid (Below wc.heap.size wc w5) := HB4.out.trans (HB5.out.mono HB4.out.size)
   clear HB5 HG4' HFH HF4 HB4 hgx4
   have hbe := kH
   have hbs := fJ
   have cS := kP HF5.out.e
   have hlm : (l.map pg).length = m := by rw [List.length_map]; exact HL.out.len
   have HLM := zh hlm
   clear hlm
   cases hhas : pM (l.map pg) (kY x hk leaf d)
   ·have EL := zh hhas
    clear hhas
    by_cases h8e : m = 8
    ·have HVE : Hid (V = uX 3) := by
      have := IR (x := x) HVL.out HE0.out (by rw [hMD]; exact EL.out) (by rw [HLM.out]; exact h8e)
      rw [HV.out] at this; exact this
     have hq : ((m : Int) == 8) = true := by rw [h8e]; rfl
     go_wp2_with (first
      | (refine wpList_store_row rfl 25 _ _ rfl (w.heap.size + 1 + 1) zEn rfl rfl 25 _ HF5.out.y (aL _ _ _) rfl (cJ _ _ _ _ _ _ _) ?_; generalize hw8 : World.setRow w5 _ _ = w8; have HY8 : Hid (w8.heap[w.heap.size + 1 + 1]? = some (.cells zEn 25 (0, 0))) := (by rw [← hw8]; exact setRow_heap _ _ _ _ _ _ HF5.out.y); have HZ8 : Hid (w8.heap[w.heap.size + 1 + 1 + 1]? = some (.cells (sgA bK 0 0) 64 (0, 0))) := (by rw [← hw8]; exact (setRow_other _ _ _ _ (by omega)).trans HF5.out.z); have HB8 : Hid (Below w.heap.size w w8) := (by rw [← hw8]; exact below_setRow HF5.out.b (by omega) _); clear hw8)
      | (refine wpList_store_row rfl 64 _ _ rfl (w.heap.size + 1 + 1 + 1) (sgA bK 0 0) rfl rfl 64 _ HZ8.out (aJ aD) rfl (bA _ _ _) ?_; generalize hw9 : World.setRow w8 _ _ = w9; have HZ9 : Hid (w9.heap[w.heap.size + 1 + 1 + 1]? = some (.cells (sgA bK 0 0) 64 (0, 0))) := (by rw [← hw9]; exact setRow_heap _ _ _ _ _ _ HZ8.out); have HY9 : Hid (w9.heap[w.heap.size + 1 + 1]? = some (.cells zEn 25 (0, 0))) := (by rw [← hw9]; exact (setRow_other _ _ _ _ (by omega)).trans HY8.out); have HB9 : Hid (Below w.heap.size w w9) := (by rw [← hw9]; exact below_setRow HB8.out (by omega) _); clear hw9))
     exact bodyPost_ret (aY (P := Tryz.prog) rfl _ _ (w.heap.size + 1 + 1) (w.heap.size + 1 + 1 + 1) 25 64 _ _ (0, 0) (0, 0) _ _ rfl HY9.out rfl HZ9.out Tryz.underlying25 rfl (aL _ _ _) Tryz.underlying64 rfl (aJ aD)) rfl (by rw [HVE.out]; exact SgR.err HB9.out)
    ·have HVE : Hid (V = ⟨0, t, b, nA (l.map pg) (kY x hk leaf d), x, hk, leaf + 1⟩) := by
      have := BM (x := x) HVL.out HE0.out (by rw [hMD]; exact EL.out) (by rw [HLM.out]; exact h8e)
      rw [HV.out, hMD] at this; exact this
     have hq : ((m : Int) == 8) = false := by simp; omega
     clear hbe hbs
     have PF := zh (HUP.out _ HF5.out.b)
     have HCL := zh (pF t sp n0 cap b sq m cq l w5 PF.out.1 HPN.out hn0 PF.out.2.1 (by omega) IJ.out)
     have hBc : B ≤ wc.heap.size := by omega
     have hBk5 : w.heap.size + 4 ≤ w5.heap.size := HF5.out.k
     have hc5 := IH.out.size
     go_wp2_with (refine wpList_load_row rfl 25 _ rfl w.heap.size rfl 25 _ (0, 0) _ HF5.out.e Tryz.underlying25 rfl HIE.out ?_)
     refine HCL.out.mono ?_
     rintro e w6 ⟨sp6, cap6, sq6, cq6, l6, rfl, HOB6, HOG6, HLP6, HST6, hb⟩
     have HB6 : Hid (Below w5.heap.size w5 w6) := hb
     clear hb HCL cS
     have hs6 := HB6.out.size
     have HZE := zh (heap_alloc_new w6 (.cells zEn 25))
     go_upto_region 14 with (refine wpList_store_row rfl 25 _ _ rfl w6.heap.size (enA t (.slice sp6 n0 cap6) (.slice sq6 m cq6)) rfl rfl 25 _ HZE.out (aL _ _ _) rfl (cJ _ _ _ _ _ _ _) ?_; rw [bW]; generalize hw7 : World.alloc w6 _ = w7; have HE7 : Hid (w7.heap[w6.heap.size]? = some (.cells (enA t (.slice sp6 n0 cap6) (.slice sq6 m cq6)) 25 (0, 0))) := (by rw [← hw7]; exact heap_alloc_new _ _); have HB7 : Hid (Below w6.heap.size w6 w7) := (by rw [← hw7]; exact aB _ _); have hs7 : w6.heap.size < w7.heap.size := (by rw [← hw7]; simp); clear hw7 HZE)
     obtain ⟨go, hgo⟩ : ∃ go, go = w6.heap.size := ⟨_, rfl⟩
     rw [← hgo]
     have HE7' : Hid (w7.heap[go]? = some (.cells (enA t (.slice sp6 n0 cap6) (.slice sq6 m cq6)) 25 (0, 0))) := by rw [hgo]; exact HE7.out
     have hgo7 : go < w7.heap.size ∧ w5.heap.size ≤ go := by omega
     have HGO : Hid (w6.heap.size ≤ go) := Nat.le_of_eq hgo.symm
     clear HE7 hgo
     have HB57 : Hid (Below w5.heap.size w5 w7) := HB6.out.trans (HB7.out.mono hs6)
     have HOB7 := zh (HOB6.out.below HB7.out)
     have HOG7 := zh (HOG6.out.below HB7.out)
     have HST7 : Hid (∀ y ∈ l6, SgT w7 w5.heap.size y) := fun y hy => (HST6.out y hy).below HB7.out
     have HG7 : Hid (GB w7 gx X) := HG5.out.below HB57.out hgx5
     have HXT7 : Hid (SgT w7 B X) := (HXT.out.below IH.out).below HB57.out
     have HL6 : Hid (l6.length = m) := by have h := congrArg List.length HLP6.out; rw [List.length_map, List.length_map, HL.out.len] at h; exact h
     have AQ : Hid (∀ j, (Value.slice sq6 m cq6).ownBlock = some j → j < go) := fun j hj => Nat.lt_of_lt_of_le (HOG6.out.1.lt j hj).2 HGO.out
     have cS7 := kP HE7'.out
     clear HOB6 HOG6 HST6 HG5
     go_wp2_with (first
      | (refine wpList_load_row rfl 62 _ rfl gx rfl 62 _ (0, 0) _ HG7.out Tryz.underlying62 rfl (eM HXO.out) ?_)
      | (refine bR rfl 23 1 [(0, .tmp 71)] rfl [(0, .agg (bD X).toArray)] rfl _ _ (qD _ X HXO.out) ?_; generalize hw8 : World.alloc w7 _ = w8; have HG8 : Hid (GB w8 w7.heap.size X) := (by rw [← hw8]; exact GB.new w7 X); have HB8 : Hid (Below w7.heap.size w7 w8) := (by rw [← hw8]; exact aB _ _); have hs8 : w7.heap.size < w8.heap.size := (by rw [← hw8]; simp); clear hw8))
     clear cS7
     have HE8 : Hid (w8.heap[go]? = some (.cells (enA t (.slice sp6 n0 cap6) (.slice sq6 m cq6)) 25 (0, 0))) := (HB8.out.block _ hgo7.1).trans HE7'.out
     have PT := zh (HOB7.out.below HB8.out)
     have PR := zh (HOG7.out.below HB8.out)
     have HST8 : Hid (∀ y ∈ l6, SgT w8 w5.heap.size y) := fun y hy => (HST7.out y hy).below HB8.out
     have HXT8 : Hid (SgT w8 B X) := HXT7.out.below HB8.out
     have HB58 : Hid (Below w5.heap.size w5 w8) := HB57.out.trans (HB8.out.mono (by omega))
     refine (HINS.out k l6 X w8 w5.heap.size sq6 cq6 w7.heap.size hkm HL6.out (by omega) PR.out HG8.out HXO.out (by omega) (fun j hj => by have := AQ.out j hj; omega)).mono ?_
     rintro e w9 ⟨sp9, cap9, rfl, HO9, hb9, HGR⟩
     have HB9 : Hid (Below w5.heap.size w8 w9) := hb9
     clear hb9
     have HE9 : Hid (w9.heap[go]? = some (.cells (enA t (.slice sp6 n0 cap6) (.slice sq6 m cq6)) 25 (0, 0))) := (HGR.out.block _ (by omega) (fun e => by have := AQ.out _ e.symm; omega)).trans HE8.out
     have HOB9 : Hid (OwnBy w9 w5.heap.size (.slice sp6 n0 cap6) b) := World.ownsRow.kept PT.out HGR.out (rM PT.out PR.out.1 (by decide))
     have HST9 : Hid (∀ y ∈ l6, SgT w9 w5.heap.size y) := fun y hy => (HST8.out y hy).grown PR.out HGR.out
     have PD : Hid (SgT w9 B X) := HXT8.out.grown PR.out HGR.out
     have HB59 : Hid (Below w5.heap.size w5 w9) := HB58.out.trans HB9.out
     have cS9 := kP HE9.out
     have fS9 := frozen_of_row _ _ 2 _ _ HE9.out
     have QB : Hid ((w9.setCell ⟨go, 2, none⟩ (.slice sp9 (m + 1) cap9)).heap[go]? = some (.cells (enA t (.slice sp6 n0 cap6) (.slice sp9 (m + 1) cap9)) 25 (0, 0))) := by
      have h := heap_setCell_same w9 go 2 _ _ (.slice sp9 (m + 1) cap9) HE9.out
      rw [qU] at h
      exact h
     have HO10 : Hid (OwnG (w9.setCell ⟨go, 2, none⟩ (.slice sp9 (m + 1) cap9)) w5.heap.size (.slice sp9 (m + 1) cap9) (l6.take k ++ X :: l6.drop k)) := ⟨World.ownsRow.kept HO9.out.1 (aQ _ _ _ _) (cF HO9.out.1 HE9.out (by decide)), HO9.out.2⟩
     have HOB10 : Hid (OwnBy (w9.setCell ⟨go, 2, none⟩ (.slice sp9 (m + 1) cap9)) w5.heap.size (.slice sp6 n0 cap6) b) := World.ownsRow.kept HOB9.out (aQ _ _ _ _) (cF HOB9.out HE9.out (by decide))
     have HST10 : Hid (∀ y ∈ l6, SgT (w9.setCell ⟨go, 2, none⟩ (.slice sp9 (m + 1) cap9)) w5.heap.size y) := fun y hy => (HST9.out y hy).setCell HE9.out rO _ _
     have MJ : Hid (SgT (w9.setCell ⟨go, 2, none⟩ (.slice sp9 (m + 1) cap9)) B X) := PD.out.setCell HE9.out rO _ _
     have QN : Hid (Below w5.heap.size w5 (w9.setCell ⟨go, 2, none⟩ (.slice sp9 (m + 1) cap9))) := HB59.out.setCell (p := ⟨go, 2, none⟩) hgo7.2 _
     go_upto_region 15 with fail
     generalize World.setCell w9 _ _ = wA at *
     clear cS9 fS9 HE9 HO9 HOB9 HST9 PD HB59 HGR HE8 PT PR HST8 HXT8 HB58 HE7' HOB7 HOG7 HST7 HXT7 HG7 HG8
     have HFA := zh (HF5.out.belowB QN.out hBk5)
     have QA : Hid (wA.heap[ga]? = some (.cells (sgA x (hk : Int) ((leaf : Int) + 1)) 64 (0, 0))) := (QN.out.block _ (by omega)).trans ((IH.out.block _ hgal).trans HGA.out)
     have hlw : w.heap.size + 4 ≤ go ∧ w.heap.size + 4 ≤ ga := by omega
     have MN := zh (HO10.out.below (Below.refl _ _).drew); have HOBwA := zh (HOB10.out.below (Below.refl _ _).drew); have HSTwA := zh (fun y hy => (HST10.out y hy).below (Below.refl _ _).drew); have MI := zh (MJ.out.below (Below.refl _ _).drew)
     have HYD : Hid (wA.drew.heap[w.heap.size + 1 + 1]? = some (.cells zEn 25 (0, 0))) := HFA.out.y
     refine wp_region_held_drew (S := fun w' => w'.heap[go]? = some (.cells (enA t (.slice sp6 n0 cap6) (.slice sp9 (m + 1) cap9)) 25 (0, 0)) ∧ w'.heap[ga]? = some (.cells (sgA x (hk : Int) ((leaf : Int) + 1)) 64 (0, 0))) (by kernel_rfl) ⟨QB.out, QA.out⟩ (fun hHeld => ?_)
     refine' zk 0 rfl (v := _) (yieldsIf_load_mid (by rfl) _ _ rfl _ _ rfl _ _ ?hS0n62 Tryz.underlying25 rfl (mL t (.slice sp6 n0 cap6) (.slice sp9 (m + 1) cap9))) ?rest0n62
     case hS0n62 =>
      intro w' hSw
      exact aV (L := enL t (.slice sp6 n0 cap6) (.slice sp9 (m + 1) cap9)) hSw.1
     try simp only [Act.put, zA, zB, zC, zD, zE, zF]
     refine' zk 1 rfl (v := _) (yieldsIf_load_mid (by rfl) _ _ rfl _ _ rfl _ _ ?hS1n63 Tryz.underlying64 rfl (fY HX.out)) ?rest1n63
     case hS1n63 =>
      intro w' hSw
      exact aV (L := sgL x (hk : Int) ((leaf : Int) + 1)) hSw.2
     try simp only [Act.put, zA, zB, zC, zD, zE, zF]
     refine zr 2 rfl (fun K hK => ?_)
     rw [if_pos (by rfl)]
     refine wp_store_row 25 _ _ rfl (w.heap.size + 1 + 1) (enA t (.slice sp6 n0 cap6) (.slice sp9 (m + 1) cap9)) rfl rfl 25 _ HFA.out.y (aL _ _ _) rfl (cJ _ _ _ _ _ _ _) ?_
     generalize hw : World.setRow _ _ _ = wB
     have HYB : Hid (wB.heap[w.heap.size + 1 + 1]? = some (.cells (enA t (.slice sp6 n0 cap6) (.slice sp9 (m + 1) cap9)) 25 (0, 0))) := by rw [← hw]; exact setRow_heap _ _ _ _ _ _ HFA.out.y
     have HZB : Hid (wB.heap[w.heap.size + 1 + 1 + 1]? = some (.cells (sgA bK 0 0) 64 (0, 0))) := by rw [← hw]; exact (setRow_other _ _ _ _ (by omega)).trans HFA.out.z
     have HEB : Hid (wB.heap[go]? = some (.cells (enA t (.slice sp6 n0 cap6) (.slice sp9 (m + 1) cap9)) 25 (0, 0))) := by rw [← hw]; exact (setRow_other _ _ _ _ (by omega)).trans QB.out
     have HGB : Hid (wB.heap[ga]? = some (.cells (sgA x (hk : Int) ((leaf : Int) + 1)) 64 (0, 0))) := by rw [← hw]; exact (setRow_other _ _ _ _ (by omega)).trans QA.out
     have HBB : Hid (Below w.heap.size w wB) := by rw [← hw]; exact below_setRow HFA.out.b.drew (by omega) _
     have MM : Hid (OwnG wB w5.heap.size (.slice sp9 (m + 1) cap9) (l6.take k ++ X :: l6.drop k)) := by rw [← hw]; exact ⟨World.ownsRow.kept MN.out.1 (cR _ _ _) (cF MN.out.1 HYD.out (by decide)), MN.out.2⟩
     have HOBwB : Hid (OwnBy wB w5.heap.size (.slice sp6 n0 cap6) b) := by rw [← hw]; exact HOBwA.out.setRow HYD.out (by decide) _
     have HSTwB : Hid (∀ y ∈ l6, SgT wB w5.heap.size y) := by rw [← hw]; exact fun y hy => (HSTwA.out y hy).setRow HYD.out (by decide) _
     have MH : Hid (SgT wB B X) := by rw [← hw]; exact MI.out.setRow HYD.out (by decide) _
     clear hw
     refine hK.out _ _ ⟨HEB.out, HGB.out⟩ fun _ => ?_; clear hK K
     refine zr 3 rfl (fun K hK => ?_)
     rw [if_pos (by rfl)]
     refine wp_store_row 64 _ _ rfl (w.heap.size + 1 + 1 + 1) (sgA x (hk : Int) ((leaf : Int) + 1)) rfl rfl 64 _ HZB.out (aJ HX.out) (by rw [aC aD, aC HX.out]) (bA _ _ _) ?_
     generalize hw : World.setRow _ _ _ = wC
     have HYC : Hid (wC.heap[w.heap.size + 1 + 1]? = some (.cells (enA t (.slice sp6 n0 cap6) (.slice sp9 (m + 1) cap9)) 25 (0, 0))) := by rw [← hw]; exact (setRow_other _ _ _ _ (by omega)).trans HYB.out
     have HZC : Hid (wC.heap[w.heap.size + 1 + 1 + 1]? = some (.cells (sgA x (hk : Int) ((leaf : Int) + 1)) 64 (0, 0))) := by rw [← hw]; exact setRow_heap _ _ _ _ _ _ HZB.out
     have HEC : Hid (wC.heap[go]? = some (.cells (enA t (.slice sp6 n0 cap6) (.slice sp9 (m + 1) cap9)) 25 (0, 0))) := by rw [← hw]; exact (setRow_other _ _ _ _ (by omega)).trans HEB.out
     have HGC : Hid (wC.heap[ga]? = some (.cells (sgA x (hk : Int) ((leaf : Int) + 1)) 64 (0, 0))) := by rw [← hw]; exact (setRow_other _ _ _ _ (by omega)).trans HGB.out
     have HBC : Hid (Below w.heap.size w wC) := by rw [← hw]; exact below_setRow HBB.out (by omega) _
     have PP : Hid (OwnG wC w5.heap.size (.slice sp9 (m + 1) cap9) (l6.take k ++ X :: l6.drop k)) := by rw [← hw]; exact ⟨World.ownsRow.kept MM.out.1 (cR _ _ _) (cF MM.out.1 HZB.out (by decide)), MM.out.2⟩
     have PS : Hid (OwnBy wC w5.heap.size (.slice sp6 n0 cap6) b) := by rw [← hw]; exact HOBwB.out.setRow HZB.out (by decide) _
     have PJ : Hid (∀ y ∈ l6, SgT wC w5.heap.size y) := by rw [← hw]; exact fun y hy => (HSTwB.out y hy).setRow HZB.out (by decide) _
     have MG : Hid (SgT wC B X) := by rw [← hw]; exact MH.out.setRow HZB.out (by decide) _
     clear hw
     refine hK.out _ _ ⟨HEC.out, HGC.out⟩ fun _ => ?_; clear hK K
     refine zv 4 rfl ?_
     refine zd ?_ _
     go_wp2_with fail
     refine bodyPost_ret (aY (P := Tryz.prog) rfl _ _ (w.heap.size + 1 + 1) (w.heap.size + 1 + 1 + 1) 25 64 _ _ (0, 0) (0, 0) _ _ rfl HYC.out rfl HZC.out Tryz.underlying25 rfl (aL _ _ _) Tryz.underlying64 rfl (aJ HX.out)) rfl ?_
     rw [HVE.out]
     refine ⟨(.slice sp6 n0 cap6), (.slice sp9 (m + 1) cap9), rfl, ⟨l6.take k ++ X :: l6.drop k, ?_, ?_⟩, HBC.out⟩
     ·show _ = nA (l.map pg) (kY x hk leaf d)
      rw [HIA.out, List.map_append, List.map_cons, List.map_take, List.map_drop, HLP6.out, HXP.out]
     ·refine ⟨⟨sp6, n0, cap6, rfl, (PS.out.bsrc HP.out.len).1, (PS.out.bsrc HP.out.len).2⟩, ⟨sp9, m + 1, cap9, rfl, PP.out.sgs ?_ ?_, PP.out.nilcap⟩⟩
      ·rw [List.length_append, List.length_cons, List.length_take, List.length_drop, HL6.out]; omega
      ·intro y hy
       rcases List.mem_append.1 hy with h | h
       ·exact (PJ.out y (List.mem_of_mem_take h)).dat
       ·rcases List.mem_cons.1 h with rfl | h
        ·exact MG.out.dat
        ·exact (PJ.out y (List.mem_of_mem_drop h)).dat
   ·have HVE : Hid (V = uX 5) := by
     have := IQ (x := x) HVL.out HE0.out (by rw [hMD]; exact hhas)
     rw [HV.out] at this; exact this
    clear hhas
    go_wp2_with (first
     | (refine wpList_store_row rfl 25 _ _ rfl (w.heap.size + 1 + 1) zEn rfl rfl 25 _ HF5.out.y (aL _ _ _) rfl (cJ _ _ _ _ _ _ _) ?_; generalize hw8 : World.setRow w5 _ _ = w8; have HY8 : Hid (w8.heap[w.heap.size + 1 + 1]? = some (.cells zEn 25 (0, 0))) := (by rw [← hw8]; exact setRow_heap _ _ _ _ _ _ HF5.out.y); have HZ8 : Hid (w8.heap[w.heap.size + 1 + 1 + 1]? = some (.cells (sgA bK 0 0) 64 (0, 0))) := (by rw [← hw8]; exact (setRow_other _ _ _ _ (by omega)).trans HF5.out.z); have HB8 : Hid (Below w.heap.size w w8) := (by rw [← hw8]; exact below_setRow HF5.out.b (by omega) _); clear hw8)
     | (refine wpList_store_row rfl 64 _ _ rfl (w.heap.size + 1 + 1 + 1) (sgA bK 0 0) rfl rfl 64 _ HZ8.out (aJ aD) rfl (bA _ _ _) ?_; generalize hw9 : World.setRow w8 _ _ = w9; have HZ9 : Hid (w9.heap[w.heap.size + 1 + 1 + 1]? = some (.cells (sgA bK 0 0) 64 (0, 0))) := (by rw [← hw9]; exact setRow_heap _ _ _ _ _ _ HZ8.out); have HY9 : Hid (w9.heap[w.heap.size + 1 + 1]? = some (.cells zEn 25 (0, 0))) := (by rw [← hw9]; exact (setRow_other _ _ _ _ (by omega)).trans HY8.out); have HB9 : Hid (Below w.heap.size w w9) := (by rw [← hw9]; exact below_setRow HB8.out (by omega) _); clear hw9))
    exact bodyPost_ret (aY (P := Tryz.prog) rfl _ _ (w.heap.size + 1 + 1) (w.heap.size + 1 + 1 + 1) 25 64 _ _ (0, 0) (0, 0) _ _ rfl HY9.out rfl HZ9.out Tryz.underlying25 rfl (aL _ _ _) Tryz.underlying64 rfl (aJ aD)) rfl (by rw [HVE.out]; exact SgR.err HB9.out)
end Go.Proofs.YtcligodahogpkaaGreatDoor
