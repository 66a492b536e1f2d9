/-
  Envelopes: the walk of the reference's Sign.
-/
import Derived.Test.YtjeiiabpdoelpaaGreatDoorZip
import Derived.Test.YtjeiiabpdoelpaaGreatDoorEnvO
namespace Go.Proofs.YtjeiiabpdoelpaaGreatDoor
open Go.RowKit Go.Proofs.YtjeiiabpdoelpaaGreatDoor.One
theorem MU (L : List Pg) (p : Pg) : MV L (idP p) = tE L p := rfl
theorem HiP.of {L : List Pg} {p : Pg} {k : Nat} (hs : qZ L) (h : ∀ z, L[k]? = some z → dls (idP z) (idP p) = false) : HiP L p k := by
 cases hx : L[k]? with
 | none =>
  intro m y hm hy
  have h1 := List.getElem?_eq_none_iff.1 hx
  have h2 := (List.getElem?_eq_some_iff.1 hy).1
  omega
 | some x => exact HiP.dn hs hx (h x hx)
def SgO (V : SgV) (p : Value) (l : List Sg) (w : World) (e : Ending) (w' : World) : Prop :=
 Below w.heap.size w w' ∧ ((V.E ≠ 0 ∧ V = tF V.E ∧ e = .returned (.tuple #[.agg zEn, .agg (sgA bI 0 0), .int .i64 V.E])) ∨ (V.E = 0 ∧ ∃ sp n cap l', e = .returned (.tuple #[.agg (enA V.t p (.slice sp n cap)), .agg (sgA V.x V.h V.n), .int .i64 0]) ∧ l'.length = n ∧ l'.map pg = V.L ∧ OwnG w' w.heap.size (.slice sp n cap) l' ∧ ∀ y ∈ l', y ∈ l ∨ SgT w' w.heap.size y))
theorem SgO.err {w w' : World} {E : Int} {p : Value} {l : List Sg} (hE : E ≠ 0) (hb : Below w.heap.size w w') : SgO (tF E) p l w (.returned (.tuple #[.agg zEn, .agg (sgA bI 0 0), .int .i64 E])) w' := ⟨hb, .inl ⟨hE, rfl, rfl⟩⟩
theorem SgO.R {V : SgV} {w w' : World} {e : Ending} {sp : Option Addr} {n cap : Nat} {b : List UInt8} {sq : Option Addr} {m cq : Nat} {l : List Sg} (hV : V.E = 0 → V.b = b) (hp : BSrc w w.heap.size sp n cap b) (hpn : sp = none → cap = 0) (hl : SgsIn w w.heap.size sq m cq l) (h : SgO V (.slice sp n cap) l w e w') : SgR V w e w' := by
 obtain ⟨hb, ⟨h1, h2, rfl⟩ | ⟨h1, sp', n', cap', l', rfl, hn, hL, ho, hd⟩⟩ := h
 ·rw [h2]; exact SgR.err hb
 ·refine ⟨.slice sp n cap, .slice sp' n' cap', by rw [h1], ⟨l', hL, ?_⟩, hb⟩
  rw [hV h1]
  refine ⟨⟨sp, n, cap, rfl, (hp.below hb (Nat.le_refl _)).more hb.size, hpn⟩, ⟨sp', n', cap', rfl, ho.sgs hn fun y hy => ?_, ho.nilcap⟩⟩
  rcases hd y hy with h | h
  ·exact (hl.dat y h).up hb (Nat.le_refl _)
  ·exact h.dat
set_option maxRecDepth 100000 in
set_option maxHeartbeats 8000000 in
theorem oR (t : ByteArray) (sp : Option Addr) (n0 cap : Nat) (b : List UInt8) (sq : Option Addr) (m cq : Nat) (l : List Sg) (x : List Int) (h n : Int) (w : World) (ht : t.size ≤ maxLen) (hp : BSrc w w.heap.size sp n0 cap b) (hpn : sp = none → cap = 0) (hl : SgsIn w w.heap.size sq m cq l) (hln : sq = none → cq = 0) (hx : H16 x) :
 Calls Tryz.prog 19 #[.agg (enA t (.slice sp n0 cap) (.slice sq m cq)), .agg (sgA x h n)] w (SgO (jV t b (l.map pg) x h n) (.slice sp n0 cap) l w) := by
 have HP := Lib.hid hp; have HPN := Lib.hid hpn; have HL := Lib.hid hl; have HX := Lib.hid hx; have HLNN := Lib.hid hln
 clear hp hpn hl hx hln
 obtain ⟨V, hV⟩ : ∃ V, jV t b (l.map pg) x h n = V := ⟨_, rfl⟩
 rw [hV]
 have HV := Lib.hid hV
 clear hV
 have HMO := Lib.hid (iS t b)
 obtain ⟨x1, h1, n1, l1, E, N, M, cl, pl, hS⟩ := oO x h n (eW t b) HX.out HMO.out
 have HS := Lib.hid hS
 have HX1 := Lib.hid hS.hx
 clear hS
 have HT := Lib.hid (SnF.new w (enA t (.slice sp n0 cap) (.slice sq m cq)) (sgA x h n))
 have HIE := Lib.hid (aP t (.slice sp n0 cap) (.slice sq m cq))
 go_enter Tryz.func19, Tryz.ntmps19
 go_upto_region 1 with fail
 generalize hw0 : World.alloc (World.alloc (World.alloc (World.alloc w _) _) _) _ = w0
 have HF0 : Hid (SnF w (enA t (.slice sp n0 cap) (.slice sq m cq)) (sgA x h n) w0) := by rw [← hw0]; exact HT.out
 clear hw0 HT
 have HUP : Hid (∀ w', Below w.heap.size w w' → BSrc w' w'.heap.size sp n0 cap b ∧ SgsIn w' w'.heap.size sq m cq l) := fun w' hb => ⟨(HP.out.below hb (Nat.le_refl _)).more hb.size, HL.out.up hb (Nat.le_refl _)⟩
 have HCV := Lib.hid (tT t sp n0 cap b sq m cq l w0 ht (HUP.out _ HF0.out.b).1 (HUP.out _ HF0.out.b).2)
 go_wp2_with (refine wpList_load_row rfl 25 _ rfl w.heap.size rfl 25 _ (0, 0) _ HF0.out.e Tryz.underlying25 rfl HIE.out ?_)
 refine HCV.out.mono ?_
 rintro e w1 ⟨rfl, hb⟩
 have HF1 := Lib.hid (HF0.out.below hb)
 clear hb HCV HF0
 have hbe := jL
 have hbs := eQ
 cases hvl : hF t b (l.map pg)
 ·have HVE : Hid (V = tF 1) := HV.out.symm.trans (GH hvl)
  clear hvl
  go_wp2_with (first
   | (refine wpList_store_row rfl 25 _ _ rfl (w.heap.size + 1 + 1) zEn rfl rfl 25 _ HF1.out.y (aP _ _ _) rfl (cX _ _ _ _ _ _ _) ?_; generalize hw8 : World.setRow w1 _ _ = w8; have HY8 : Hid (w8.heap[w.heap.size + 1 + 1]? = some (.cells zEn 25 (0, 0))) := (by rw [← hw8]; exact setRow_heap _ _ _ _ _ _ HF1.out.y); have HZ8 : Hid (w8.heap[w.heap.size + 1 + 1 + 1]? = some (.cells (sgA bI 0 0) 39 (0, 0))) := (by rw [← hw8]; exact (setRow_other _ _ _ _ (by omega)).trans HF1.out.z); have HB8 : Hid (Below w.heap.size w w8) := (by rw [← hw8]; exact below_setRow HF1.out.b (by omega) _); clear hw8)
   | (refine wpList_store_row rfl 39 _ _ rfl (w.heap.size + 1 + 1 + 1) (sgA bI 0 0) rfl rfl 39 _ HZ8.out (aE aD) rfl (aW _ _ _) ?_; generalize hw9 : World.setRow w8 _ _ = w9; have HZ9 : Hid (w9.heap[w.heap.size + 1 + 1 + 1]? = some (.cells (sgA bI 0 0) 39 (0, 0))) := (by rw [← hw9]; exact setRow_heap _ _ _ _ _ _ HZ8.out); have HY9 : Hid (w9.heap[w.heap.size + 1 + 1]? = some (.cells zEn 25 (0, 0))) := (by rw [← hw9]; exact (setRow_other _ _ _ _ (by omega)).trans HY8.out); have HB9 : Hid (Below w.heap.size w w9) := (by rw [← hw9]; exact below_setRow HB8.out (by omega) _); clear hw9))
  exact bodyPost_ret (aV (P := Tryz.prog) rfl _ _ (w.heap.size + 1 + 1) (w.heap.size + 1 + 1 + 1) 25 39 _ _ (0, 0) (0, 0) _ _ rfl HY9.out rfl HZ9.out Tryz.underlying25 rfl (aP _ _ _) Tryz.underlying39 rfl (aE aD)) rfl (by rw [HVE.out]; exact SgO.err (by decide) HB9.out)
 ·have HVL := Lib.hid hvl
  have h8 : m ≤ 8 := by have := pN hvl; rw [List.length_map, HL.out.len] at this; exact this
  have LN := Lib.hid (pL (yX hvl))
  clear hvl
  go_wp2_with fail
  obtain ⟨B, hBe⟩ : ∃ B, B = w1.heap.size := ⟨_, rfl⟩
  have sY : Hid (Blks B w1 w1 []) := Blks.start (Below.refl _ _) (Nat.le_of_eq hBe)
  have HLT : Hid (w.heap.size < B ∧ w.heap.size + 1 < B) := ⟨by have := HF1.out.k; omega, by have := HF1.out.k; omega⟩
  have OC : Hid (w.heap.size + 4 ≤ B) := by show _ ≤ _; have := HF1.out.k; omega
  have CH : Hid (∀ w', Below B w1 w' → Below w.heap.size w w') := fun w' hb => HF1.out.b.trans (hb.mono (Nat.le_of_lt HLT.out.1))
  have HCM : Hid (∀ w', Below B w1 w' → Calls Tryz.prog 45 #[.string t, .slice sp n0 cap] w' fun e w'' => e = .returned (.agg (dgA (eW t b))) ∧ Below w'.heap.size w' w'') := fun w' hb => rM t sp n0 cap b w' (HUP.out _ (CH.out _ hb)).1
  have HCS : Hid (∀ w', Below B w1 w' → Calls Tryz.prog 44 #[.agg (sgL x h n).toArray, .agg (dgA (eW t b))] w' fun e w'' => ∃ sp1 c1 sp2 c2, e = .returned (.tuple #[.agg (sgA x1 h1 n1), .agg (siA l1 (.slice sp1 N c1) (.slice sp2 M c2)), .int .i64 E]) ∧ OwnHv w'' w'.heap.size (.slice sp1 N c1) cl ∧ OwnHv w'' w'.heap.size (.slice sp2 M c2) pl ∧ Below w'.heap.size w' w'') := fun w' hb => HS.out.b w'
  clear hBe hbe hbs
  generalize hMD : eW t b = d at *
  go_cut [7, 8, 9] (fun s7 s8 s9 wx => ∃ (ga gb : Nat) (sp1 : Option Addr) (c1 : Nat) (sp2 : Option Addr) (c2 : Nat), s7 = .pointer (some ⟨ga, 0, none⟩) ∧ s8 = .pointer (some ⟨gb, 0, none⟩) ∧ s9 = .int .i64 E ∧ Hid (wx.heap[ga]? = some (.cells (sgA x1 h1 n1) 39 (0, 0)) ∧ wx.heap[gb]? = some (.cells (siA l1 (.slice sp1 N c1) (.slice sp2 M c2)) 67 (0, 0)) ∧ OwnHv wx B (.slice sp1 N c1) cl ∧ OwnHv wx B (.slice sp2 M c2) pl ∧ B ≤ ga ∧ B ≤ gb ∧ Below B w1 wx))
  case first =>
   clear HV HUP HP HPN HL HLNN HVL h8 LN HMO hMD CH HIE ht HS
   as_aux_lemma =>
    refine wp_region_held_drew (S := fun w' => Below B w1 w') (by kernel_rfl) sY.out.b.drew (fun hHeld => ?_)
    refine' zk 0 rfl (v := _) (yieldsIf_load_mid (by rfl) _ _ rfl _ _ rfl _ _ ?hS0n1 Tryz.underlying39 rfl (eP HX.out)) ?rest0n1
    case hS0n1 =>
     intro w' hSw
     exact aT (L := sgL x h n) ((hSw.block _ HLT.out.2).trans HF1.out.s)
    try simp only [Act.put, zA, zB, zC, zD, zE, zF]
    refine zw 1 rfl (v := ?_) ?_ ?_; rotate_left
    ·intro w' hSw; go_simp; try with_reducible rfl
    try simp only [Act.put, zA, zB, zC, zD, zE, zF]
    refine zw 2 rfl (v := ?_) ?_ ?_; rotate_left
    ·intro w' hSw; have c0 := CY ((hSw.block _ HLT.out.1).trans HF1.out.e); go_simp; try with_reducible rfl
    try simp only [Act.put, zA, zB, zC, zD, zE, zF]
    refine zw 3 rfl (v := ?_) ?_ ?_; rotate_left
    ·intro w' hSw; go_simp; try with_reducible rfl
    try simp only [Act.put, zA, zB, zC, zD, zE, zF]
    refine zw 4 rfl (v := ?_) ?_ ?_; rotate_left
    ·intro w' hSw; have c0 := nX ((hSw.block _ HLT.out.1).trans HF1.out.e); go_simp; try with_reducible rfl
    try simp only [Act.put, zA, zB, zC, zD, zE, zF]
    refine wpAnyH_ready (rs := [5, 11, 12]) (by kernel_rfl) (by simp) (AllReadyH.cons (o := _) rfl (fun K hK => ?_) (AllReadyH.cons (o := _) rfl (fun K hK => ?_) (AllReadyH.cons (o := _) rfl (fun K hK => ?_) AllReadyH.nil)))
    go_simp
    with_reducible refine (HCM.out _ (sY.out.drew).b).mono ?_
    rintro e v1 ⟨rfl, hb⟩
    have cV := Lib.hid (sY.out.call ((Below.refl _ _).drew.trans hb))
    clear hb
    go_wp2_with fail
    refine hK.out _ _ cV.out.b (fun hHeld => ?_); clear hK K
    refine wpAnyH_ready (rs := [6, 11, 12]) (by kernel_rfl) (by simp) (AllReadyH.cons (o := _) rfl (fun K hK => ?_) (AllReadyH.cons (o := _) rfl (fun K hK => ?_) (AllReadyH.cons (o := _) rfl (fun K hK => ?_) AllReadyH.nil)))
    go_simp
    with_reducible refine (HCS.out _ (cV.out).b).mono ?_
    rintro e v2 ⟨sp1, c1, sp2, c2, rfl, hoc, hop, hb⟩
    have bB := Lib.hid (cV.out.call hb)
    have CP := Lib.hid (hoc.base (cV.out.k))
    have CN := Lib.hid (hop.base (cV.out.k))
    clear hb
    go_wp2_with fail
    refine hK.out _ _ bB.out.b (fun hHeld => ?_); clear hK K
    refine zw 7 rfl (v := ?_) ?_ ?_; rotate_left
    ·intro w' hSw; go_simp; try with_reducible rfl
    try simp only [Act.put, zA, zB, zC, zD, zE, zF]
    refine zw 8 rfl (v := ?_) ?_ ?_; rotate_left
    ·intro w' hSw; go_simp; try with_reducible rfl
    try simp only [Act.put, zA, zB, zC, zD, zE, zF]
    refine zw 9 rfl (v := ?_) ?_ ?_; rotate_left
    ·intro w' hSw; go_simp; try with_reducible rfl
    try simp only [Act.put, zA, zB, zC, zD, zE, zF]
    refine zw 10 rfl (v := ?_) ?_ ?_; rotate_left
    ·intro w' hSw; go_simp; try with_reducible rfl
    try simp only [Act.put, zA, zB, zC, zD, zE, zF]
    refine zs 11 12 rfl (fun K hK => ?_) rfl (fun K hK => ?_)
    obtain ⟨ga, v3, hg, hw, aS, HEv3⟩ := bB.out.allocd (.cells (sgA bI 0 0) 39 (0, 0))
    go_simp
    try rw [hg]
    generalize hq : World.alloc v2 _ = q
    obtain rfl : v3 = q := hw.symm.trans hq
    clear hg hw hq
    have fO := Lib.hid (CP.out.below HEv3.out)
    have fN := Lib.hid (CN.out.below HEv3.out)
    refine hK.out _ _ aS.out.b (fun hHeld => ?_); clear hK K
    refine zr 12 rfl (fun K hK => ?_)
    obtain ⟨gb, v4, hg, hw, aM, HEv4⟩ := aS.out.allocd (.cells (siA 0 aL aL) 67 (0, 0))
    go_simp
    try rw [hg]
    generalize hq : World.alloc v3 _ = q
    obtain rfl : v4 = q := hw.symm.trans hq
    clear hg hw hq
    have cN := Lib.hid (fO.out.below HEv4.out)
    have cM := Lib.hid (fN.out.below HEv4.out)
    refine hK.out _ _ aM.out.b (fun hHeld => ?_); clear hK K
    refine zr 13 rfl (fun K hK => ?_)
    rw [if_pos (by rfl)]
    refine wp_store_row 39 _ _ rfl ga (sgA x1 h1 n1) rfl rfl 39 _ (aM.out.at 1 rfl) (aE HX1.out) (by rw [aC aD, aC HX1.out]) (aW _ _ _) ?_
    generalize hw : World.setRow v4 _ _ = v5
    have aJ := Lib.hid (aM.out.set 1 rfl (sgA x1 h1 n1))
    rw [hw] at aJ
    have bH := Lib.hid (cN.out.setRow (aM.out.at 1 rfl) (by decide) (sgA x1 h1 n1))
    rw [hw] at bH
    have bF := Lib.hid (cM.out.setRow (aM.out.at 1 rfl) (by decide) (sgA x1 h1 n1))
    rw [hw] at bF
    clear hw
    refine hK.out _ _ aJ.out.b (fun hHeld => ?_); clear hK K
    refine zr 14 rfl (fun K hK => ?_)
    rw [if_pos (by rfl)]
    refine wp_store_row 67 _ _ rfl gb (siA l1 (.slice sp1 N c1) (.slice sp2 M c2)) rfl rfl 67 _ (aJ.out.at 0 rfl) (aN _ _ _) rfl (bQ _ _ _ _ _ _ _) ?_
    generalize hw : World.setRow v5 _ _ = v6
    have aI := Lib.hid (aJ.out.set 0 rfl (siA l1 (.slice sp1 N c1) (.slice sp2 M c2)))
    rw [hw] at aI
    have bG := Lib.hid (bH.out.setRow (aJ.out.at 0 rfl) (by decide) (siA l1 (.slice sp1 N c1) (.slice sp2 M c2)))
    rw [hw] at bG
    have bE := Lib.hid (bF.out.setRow (aJ.out.at 0 rfl) (by decide) (siA l1 (.slice sp1 N c1) (.slice sp2 M c2)))
    rw [hw] at bE
    clear hw
    refine hK.out _ _ aI.out.b (fun hHeld => ?_); clear hK K
    refine zw 15 rfl (v := ?_) ?_ ?_; rotate_left
    ·intro w' hSw; go_simp; try with_reducible rfl
    try simp only [Act.put, zA, zB, zC, zD, zE, zF]
    refine zd ?_ _
    go_wp2_with fail
    go_meet
    exact ⟨ga, gb, sp1, c1, sp2, c2, rfl, rfl, rfl, aI.out.at 1 rfl, aI.out.at 0 rfl, bG.out, bE.out, (aI.out.lt 1 rfl).1, (aI.out.lt 0 rfl).1, aI.out.b⟩
    obtain ⟨gb, v3, hg, hw, aS, HEv3⟩ := bB.out.allocd (.cells (siA 0 aL aL) 67 (0, 0))
    go_simp
    try rw [hg]
    generalize hq : World.alloc v2 _ = q
    obtain rfl : v3 = q := hw.symm.trans hq
    clear hg hw hq
    have fO := Lib.hid (CP.out.below HEv3.out)
    have fN := Lib.hid (CN.out.below HEv3.out)
    refine hK.out _ _ aS.out.b (fun hHeld => ?_); clear hK K
    refine zr 11 rfl (fun K hK => ?_)
    obtain ⟨ga, v4, hg, hw, aM, HEv4⟩ := aS.out.allocd (.cells (sgA bI 0 0) 39 (0, 0))
    go_simp
    try rw [hg]
    generalize hq : World.alloc v3 _ = q
    obtain rfl : v4 = q := hw.symm.trans hq
    clear hg hw hq
    have cN := Lib.hid (fO.out.below HEv4.out)
    have cM := Lib.hid (fN.out.below HEv4.out)
    refine hK.out _ _ aM.out.b (fun hHeld => ?_); clear hK K
    refine zr 13 rfl (fun K hK => ?_)
    rw [if_pos (by rfl)]
    refine wp_store_row 39 _ _ rfl ga (sgA x1 h1 n1) rfl rfl 39 _ (aM.out.at 0 rfl) (aE HX1.out) (by rw [aC aD, aC HX1.out]) (aW _ _ _) ?_
    generalize hw : World.setRow v4 _ _ = v5
    have aJ := Lib.hid (aM.out.set 0 rfl (sgA x1 h1 n1))
    rw [hw] at aJ
    have bH := Lib.hid (cN.out.setRow (aM.out.at 0 rfl) (by decide) (sgA x1 h1 n1))
    rw [hw] at bH
    have bF := Lib.hid (cM.out.setRow (aM.out.at 0 rfl) (by decide) (sgA x1 h1 n1))
    rw [hw] at bF
    clear hw
    refine hK.out _ _ aJ.out.b (fun hHeld => ?_); clear hK K
    refine zr 14 rfl (fun K hK => ?_)
    rw [if_pos (by rfl)]
    refine wp_store_row 67 _ _ rfl gb (siA l1 (.slice sp1 N c1) (.slice sp2 M c2)) rfl rfl 67 _ (aJ.out.at 1 rfl) (aN _ _ _) rfl (bQ _ _ _ _ _ _ _) ?_
    generalize hw : World.setRow v5 _ _ = v6
    have aI := Lib.hid (aJ.out.set 1 rfl (siA l1 (.slice sp1 N c1) (.slice sp2 M c2)))
    rw [hw] at aI
    have bG := Lib.hid (bH.out.setRow (aJ.out.at 1 rfl) (by decide) (siA l1 (.slice sp1 N c1) (.slice sp2 M c2)))
    rw [hw] at bG
    have bE := Lib.hid (bF.out.setRow (aJ.out.at 1 rfl) (by decide) (siA l1 (.slice sp1 N c1) (.slice sp2 M c2)))
    rw [hw] at bE
    clear hw
    refine hK.out _ _ aI.out.b (fun hHeld => ?_); clear hK K
    refine zw 15 rfl (v := ?_) ?_ ?_; rotate_left
    ·intro w' hSw; go_simp; try with_reducible rfl
    try simp only [Act.put, zA, zB, zC, zD, zE, zF]
    refine zd ?_ _
    go_wp2_with fail
    go_meet
    exact ⟨ga, gb, sp1, c1, sp2, c2, rfl, rfl, rfl, aI.out.at 0 rfl, aI.out.at 1 rfl, bG.out, bE.out, (aI.out.lt 0 rfl).1, (aI.out.lt 1 rfl).1, aI.out.b⟩
    obtain ⟨ga, v2, hg, hw, bB, iL⟩ := cV.out.allocd (.cells (sgA bI 0 0) 39 (0, 0))
    go_simp
    try rw [hg]
    generalize hq : World.alloc v1 _ = q
    obtain rfl : v2 = q := hw.symm.trans hq
    clear hg hw hq
    refine hK.out _ _ bB.out.b (fun hHeld => ?_); clear hK K
    refine zs 6 12 rfl (fun K hK => ?_) rfl (fun K hK => ?_)
    go_simp
    with_reducible refine (HCS.out _ (bB.out).b).mono ?_
    rintro e v3 ⟨sp1, c1, sp2, c2, rfl, hoc, hop, hb⟩
    have aS := Lib.hid (bB.out.call hb)
    have fO := Lib.hid (hoc.base (bB.out.k))
    have fN := Lib.hid (hop.base (bB.out.k))
    clear hb
    go_wp2_with fail
    refine hK.out _ _ aS.out.b (fun hHeld => ?_); clear hK K
    refine zw 7 rfl (v := ?_) ?_ ?_; rotate_left
    ·intro w' hSw; go_simp; try with_reducible rfl
    try simp only [Act.put, zA, zB, zC, zD, zE, zF]
    refine zw 8 rfl (v := ?_) ?_ ?_; rotate_left
    ·intro w' hSw; go_simp; try with_reducible rfl
    try simp only [Act.put, zA, zB, zC, zD, zE, zF]
    refine zw 9 rfl (v := ?_) ?_ ?_; rotate_left
    ·intro w' hSw; go_simp; try with_reducible rfl
    try simp only [Act.put, zA, zB, zC, zD, zE, zF]
    refine zw 10 rfl (v := ?_) ?_ ?_; rotate_left
    ·intro w' hSw; go_simp; try with_reducible rfl
    try simp only [Act.put, zA, zB, zC, zD, zE, zF]
    refine zr 12 rfl (fun K hK => ?_)
    obtain ⟨gb, v4, hg, hw, aM, HEv4⟩ := aS.out.allocd (.cells (siA 0 aL aL) 67 (0, 0))
    go_simp
    try rw [hg]
    generalize hq : World.alloc v3 _ = q
    obtain rfl : v4 = q := hw.symm.trans hq
    clear hg hw hq
    have cN := Lib.hid (fO.out.below HEv4.out)
    have cM := Lib.hid (fN.out.below HEv4.out)
    refine hK.out _ _ aM.out.b (fun hHeld => ?_); clear hK K
    refine zr 13 rfl (fun K hK => ?_)
    rw [if_pos (by rfl)]
    refine wp_store_row 39 _ _ rfl ga (sgA x1 h1 n1) rfl rfl 39 _ (aM.out.at 1 rfl) (aE HX1.out) (by rw [aC aD, aC HX1.out]) (aW _ _ _) ?_
    generalize hw : World.setRow v4 _ _ = v5
    have aJ := Lib.hid (aM.out.set 1 rfl (sgA x1 h1 n1))
    rw [hw] at aJ
    have bH := Lib.hid (cN.out.setRow (aM.out.at 1 rfl) (by decide) (sgA x1 h1 n1))
    rw [hw] at bH
    have bF := Lib.hid (cM.out.setRow (aM.out.at 1 rfl) (by decide) (sgA x1 h1 n1))
    rw [hw] at bF
    clear hw
    refine hK.out _ _ aJ.out.b (fun hHeld => ?_); clear hK K
    refine zr 14 rfl (fun K hK => ?_)
    rw [if_pos (by rfl)]
    refine wp_store_row 67 _ _ rfl gb (siA l1 (.slice sp1 N c1) (.slice sp2 M c2)) rfl rfl 67 _ (aJ.out.at 0 rfl) (aN _ _ _) rfl (bQ _ _ _ _ _ _ _) ?_
    generalize hw : World.setRow v5 _ _ = v6
    have aI := Lib.hid (aJ.out.set 0 rfl (siA l1 (.slice sp1 N c1) (.slice sp2 M c2)))
    rw [hw] at aI
    have bG := Lib.hid (bH.out.setRow (aJ.out.at 0 rfl) (by decide) (siA l1 (.slice sp1 N c1) (.slice sp2 M c2)))
    rw [hw] at bG
    have bE := Lib.hid (bF.out.setRow (aJ.out.at 0 rfl) (by decide) (siA l1 (.slice sp1 N c1) (.slice sp2 M c2)))
    rw [hw] at bE
    clear hw
    refine hK.out _ _ aI.out.b (fun hHeld => ?_); clear hK K
    refine zw 15 rfl (v := ?_) ?_ ?_; rotate_left
    ·intro w' hSw; go_simp; try with_reducible rfl
    try simp only [Act.put, zA, zB, zC, zD, zE, zF]
    refine zd ?_ _
    go_wp2_with fail
    go_meet
    exact ⟨ga, gb, sp1, c1, sp2, c2, rfl, rfl, rfl, aI.out.at 1 rfl, aI.out.at 0 rfl, bG.out, bE.out, (aI.out.lt 1 rfl).1, (aI.out.lt 0 rfl).1, aI.out.b⟩
    obtain ⟨gb, v3, hg, hw, aS, HEv3⟩ := bB.out.allocd (.cells (siA 0 aL aL) 67 (0, 0))
    go_simp
    try rw [hg]
    generalize hq : World.alloc v2 _ = q
    obtain rfl : v3 = q := hw.symm.trans hq
    clear hg hw hq
    refine hK.out _ _ aS.out.b (fun hHeld => ?_); clear hK K
    refine zr 6 rfl (fun K hK => ?_)
    go_simp
    with_reducible refine (HCS.out _ (aS.out).b).mono ?_
    rintro e v4 ⟨sp1, c1, sp2, c2, rfl, hoc, hop, hb⟩
    have aM := Lib.hid (aS.out.call hb)
    have cN := Lib.hid (hoc.base (aS.out.k))
    have cM := Lib.hid (hop.base (aS.out.k))
    clear hb
    go_wp2_with fail
    refine hK.out _ _ aM.out.b (fun hHeld => ?_); clear hK K
    refine zw 7 rfl (v := ?_) ?_ ?_; rotate_left
    ·intro w' hSw; go_simp; try with_reducible rfl
    try simp only [Act.put, zA, zB, zC, zD, zE, zF]
    refine zw 8 rfl (v := ?_) ?_ ?_; rotate_left
    ·intro w' hSw; go_simp; try with_reducible rfl
    try simp only [Act.put, zA, zB, zC, zD, zE, zF]
    refine zw 9 rfl (v := ?_) ?_ ?_; rotate_left
    ·intro w' hSw; go_simp; try with_reducible rfl
    try simp only [Act.put, zA, zB, zC, zD, zE, zF]
    refine zw 10 rfl (v := ?_) ?_ ?_; rotate_left
    ·intro w' hSw; go_simp; try with_reducible rfl
    try simp only [Act.put, zA, zB, zC, zD, zE, zF]
    refine zr 13 rfl (fun K hK => ?_)
    rw [if_pos (by rfl)]
    refine wp_store_row 39 _ _ rfl ga (sgA x1 h1 n1) rfl rfl 39 _ (aM.out.at 1 rfl) (aE HX1.out) (by rw [aC aD, aC HX1.out]) (aW _ _ _) ?_
    generalize hw : World.setRow v4 _ _ = v5
    have aJ := Lib.hid (aM.out.set 1 rfl (sgA x1 h1 n1))
    rw [hw] at aJ
    have bH := Lib.hid (cN.out.setRow (aM.out.at 1 rfl) (by decide) (sgA x1 h1 n1))
    rw [hw] at bH
    have bF := Lib.hid (cM.out.setRow (aM.out.at 1 rfl) (by decide) (sgA x1 h1 n1))
    rw [hw] at bF
    clear hw
    refine hK.out _ _ aJ.out.b (fun hHeld => ?_); clear hK K
    refine zr 14 rfl (fun K hK => ?_)
    rw [if_pos (by rfl)]
    refine wp_store_row 67 _ _ rfl gb (siA l1 (.slice sp1 N c1) (.slice sp2 M c2)) rfl rfl 67 _ (aJ.out.at 0 rfl) (aN _ _ _) rfl (bQ _ _ _ _ _ _ _) ?_
    generalize hw : World.setRow v5 _ _ = v6
    have aI := Lib.hid (aJ.out.set 0 rfl (siA l1 (.slice sp1 N c1) (.slice sp2 M c2)))
    rw [hw] at aI
    have bG := Lib.hid (bH.out.setRow (aJ.out.at 0 rfl) (by decide) (siA l1 (.slice sp1 N c1) (.slice sp2 M c2)))
    rw [hw] at bG
    have bE := Lib.hid (bF.out.setRow (aJ.out.at 0 rfl) (by decide) (siA l1 (.slice sp1 N c1) (.slice sp2 M c2)))
    rw [hw] at bE
    clear hw
    refine hK.out _ _ aI.out.b (fun hHeld => ?_); clear hK K
    refine zw 15 rfl (v := ?_) ?_ ?_; rotate_left
    ·intro w' hSw; go_simp; try with_reducible rfl
    try simp only [Act.put, zA, zB, zC, zD, zE, zF]
    refine zd ?_ _
    go_wp2_with fail
    go_meet
    exact ⟨ga, gb, sp1, c1, sp2, c2, rfl, rfl, rfl, aI.out.at 1 rfl, aI.out.at 0 rfl, bG.out, bE.out, (aI.out.lt 1 rfl).1, (aI.out.lt 0 rfl).1, aI.out.b⟩
    obtain ⟨gb, v2, hg, hw, bB, iL⟩ := cV.out.allocd (.cells (siA 0 aL aL) 67 (0, 0))
    go_simp
    try rw [hg]
    generalize hq : World.alloc v1 _ = q
    obtain rfl : v2 = q := hw.symm.trans hq
    clear hg hw hq
    refine hK.out _ _ bB.out.b (fun hHeld => ?_); clear hK K
    refine zs 6 11 rfl (fun K hK => ?_) rfl (fun K hK => ?_)
    go_simp
    with_reducible refine (HCS.out _ (bB.out).b).mono ?_
    rintro e v3 ⟨sp1, c1, sp2, c2, rfl, hoc, hop, hb⟩
    have aS := Lib.hid (bB.out.call hb)
    have fO := Lib.hid (hoc.base (bB.out.k))
    have fN := Lib.hid (hop.base (bB.out.k))
    clear hb
    go_wp2_with fail
    refine hK.out _ _ aS.out.b (fun hHeld => ?_); clear hK K
    refine zw 7 rfl (v := ?_) ?_ ?_; rotate_left
    ·intro w' hSw; go_simp; try with_reducible rfl
    try simp only [Act.put, zA, zB, zC, zD, zE, zF]
    refine zw 8 rfl (v := ?_) ?_ ?_; rotate_left
    ·intro w' hSw; go_simp; try with_reducible rfl
    try simp only [Act.put, zA, zB, zC, zD, zE, zF]
    refine zw 9 rfl (v := ?_) ?_ ?_; rotate_left
    ·intro w' hSw; go_simp; try with_reducible rfl
    try simp only [Act.put, zA, zB, zC, zD, zE, zF]
    refine zw 10 rfl (v := ?_) ?_ ?_; rotate_left
    ·intro w' hSw; go_simp; try with_reducible rfl
    try simp only [Act.put, zA, zB, zC, zD, zE, zF]
    refine zr 11 rfl (fun K hK => ?_)
    obtain ⟨ga, v4, hg, hw, aM, HEv4⟩ := aS.out.allocd (.cells (sgA bI 0 0) 39 (0, 0))
    go_simp
    try rw [hg]
    generalize hq : World.alloc v3 _ = q
    obtain rfl : v4 = q := hw.symm.trans hq
    clear hg hw hq
    have cN := Lib.hid (fO.out.below HEv4.out)
    have cM := Lib.hid (fN.out.below HEv4.out)
    refine hK.out _ _ aM.out.b (fun hHeld => ?_); clear hK K
    refine zr 13 rfl (fun K hK => ?_)
    rw [if_pos (by rfl)]
    refine wp_store_row 39 _ _ rfl ga (sgA x1 h1 n1) rfl rfl 39 _ (aM.out.at 0 rfl) (aE HX1.out) (by rw [aC aD, aC HX1.out]) (aW _ _ _) ?_
    generalize hw : World.setRow v4 _ _ = v5
    have aJ := Lib.hid (aM.out.set 0 rfl (sgA x1 h1 n1))
    rw [hw] at aJ
    have bH := Lib.hid (cN.out.setRow (aM.out.at 0 rfl) (by decide) (sgA x1 h1 n1))
    rw [hw] at bH
    have bF := Lib.hid (cM.out.setRow (aM.out.at 0 rfl) (by decide) (sgA x1 h1 n1))
    rw [hw] at bF
    clear hw
    refine hK.out _ _ aJ.out.b (fun hHeld => ?_); clear hK K
    refine zr 14 rfl (fun K hK => ?_)
    rw [if_pos (by rfl)]
    refine wp_store_row 67 _ _ rfl gb (siA l1 (.slice sp1 N c1) (.slice sp2 M c2)) rfl rfl 67 _ (aJ.out.at 1 rfl) (aN _ _ _) rfl (bQ _ _ _ _ _ _ _) ?_
    generalize hw : World.setRow v5 _ _ = v6
    have aI := Lib.hid (aJ.out.set 1 rfl (siA l1 (.slice sp1 N c1) (.slice sp2 M c2)))
    rw [hw] at aI
    have bG := Lib.hid (bH.out.setRow (aJ.out.at 1 rfl) (by decide) (siA l1 (.slice sp1 N c1) (.slice sp2 M c2)))
    rw [hw] at bG
    have bE := Lib.hid (bF.out.setRow (aJ.out.at 1 rfl) (by decide) (siA l1 (.slice sp1 N c1) (.slice sp2 M c2)))
    rw [hw] at bE
    clear hw
    refine hK.out _ _ aI.out.b (fun hHeld => ?_); clear hK K
    refine zw 15 rfl (v := ?_) ?_ ?_; rotate_left
    ·intro w' hSw; go_simp; try with_reducible rfl
    try simp only [Act.put, zA, zB, zC, zD, zE, zF]
    refine zd ?_ _
    go_wp2_with fail
    go_meet
    exact ⟨ga, gb, sp1, c1, sp2, c2, rfl, rfl, rfl, aI.out.at 0 rfl, aI.out.at 1 rfl, bG.out, bE.out, (aI.out.lt 0 rfl).1, (aI.out.lt 1 rfl).1, aI.out.b⟩
    obtain ⟨ga, v3, hg, hw, aS, HEv3⟩ := bB.out.allocd (.cells (sgA bI 0 0) 39 (0, 0))
    go_simp
    try rw [hg]
    generalize hq : World.alloc v2 _ = q
    obtain rfl : v3 = q := hw.symm.trans hq
    clear hg hw hq
    refine hK.out _ _ aS.out.b (fun hHeld => ?_); clear hK K
    refine zr 6 rfl (fun K hK => ?_)
    go_simp
    with_reducible refine (HCS.out _ (aS.out).b).mono ?_
    rintro e v4 ⟨sp1, c1, sp2, c2, rfl, hoc, hop, hb⟩
    have aM := Lib.hid (aS.out.call hb)
    have cN := Lib.hid (hoc.base (aS.out.k))
    have cM := Lib.hid (hop.base (aS.out.k))
    clear hb
    go_wp2_with fail
    refine hK.out _ _ aM.out.b (fun hHeld => ?_); clear hK K
    refine zw 7 rfl (v := ?_) ?_ ?_; rotate_left
    ·intro w' hSw; go_simp; try with_reducible rfl
    try simp only [Act.put, zA, zB, zC, zD, zE, zF]
    refine zw 8 rfl (v := ?_) ?_ ?_; rotate_left
    ·intro w' hSw; go_simp; try with_reducible rfl
    try simp only [Act.put, zA, zB, zC, zD, zE, zF]
    refine zw 9 rfl (v := ?_) ?_ ?_; rotate_left
    ·intro w' hSw; go_simp; try with_reducible rfl
    try simp only [Act.put, zA, zB, zC, zD, zE, zF]
    refine zw 10 rfl (v := ?_) ?_ ?_; rotate_left
    ·intro w' hSw; go_simp; try with_reducible rfl
    try simp only [Act.put, zA, zB, zC, zD, zE, zF]
    refine zr 13 rfl (fun K hK => ?_)
    rw [if_pos (by rfl)]
    refine wp_store_row 39 _ _ rfl ga (sgA x1 h1 n1) rfl rfl 39 _ (aM.out.at 0 rfl) (aE HX1.out) (by rw [aC aD, aC HX1.out]) (aW _ _ _) ?_
    generalize hw : World.setRow v4 _ _ = v5
    have aJ := Lib.hid (aM.out.set 0 rfl (sgA x1 h1 n1))
    rw [hw] at aJ
    have bH := Lib.hid (cN.out.setRow (aM.out.at 0 rfl) (by decide) (sgA x1 h1 n1))
    rw [hw] at bH
    have bF := Lib.hid (cM.out.setRow (aM.out.at 0 rfl) (by decide) (sgA x1 h1 n1))
    rw [hw] at bF
    clear hw
    refine hK.out _ _ aJ.out.b (fun hHeld => ?_); clear hK K
    refine zr 14 rfl (fun K hK => ?_)
    rw [if_pos (by rfl)]
    refine wp_store_row 67 _ _ rfl gb (siA l1 (.slice sp1 N c1) (.slice sp2 M c2)) rfl rfl 67 _ (aJ.out.at 1 rfl) (aN _ _ _) rfl (bQ _ _ _ _ _ _ _) ?_
    generalize hw : World.setRow v5 _ _ = v6
    have aI := Lib.hid (aJ.out.set 1 rfl (siA l1 (.slice sp1 N c1) (.slice sp2 M c2)))
    rw [hw] at aI
    have bG := Lib.hid (bH.out.setRow (aJ.out.at 1 rfl) (by decide) (siA l1 (.slice sp1 N c1) (.slice sp2 M c2)))
    rw [hw] at bG
    have bE := Lib.hid (bF.out.setRow (aJ.out.at 1 rfl) (by decide) (siA l1 (.slice sp1 N c1) (.slice sp2 M c2)))
    rw [hw] at bE
    clear hw
    refine hK.out _ _ aI.out.b (fun hHeld => ?_); clear hK K
    refine zw 15 rfl (v := ?_) ?_ ?_; rotate_left
    ·intro w' hSw; go_simp; try with_reducible rfl
    try simp only [Act.put, zA, zB, zC, zD, zE, zF]
    refine zd ?_ _
    go_wp2_with fail
    go_meet
    exact ⟨ga, gb, sp1, c1, sp2, c2, rfl, rfl, rfl, aI.out.at 0 rfl, aI.out.at 1 rfl, bG.out, bE.out, (aI.out.lt 0 rfl).1, (aI.out.lt 1 rfl).1, aI.out.b⟩
    obtain ⟨ga, v1, hg, hw, cV, nZ⟩ := sY.out.allocdD (.cells (sgA bI 0 0) 39 (0, 0))
    go_simp
    try rw [hg]
    generalize hq : World.drew (World.alloc w1 _) = q
    obtain rfl : v1 = q := hw.symm.trans hq
    clear hg hw hq
    refine hK.out _ _ cV.out.b (fun hHeld => ?_); clear hK K
    refine zs 5 12 rfl (fun K hK => ?_) rfl (fun K hK => ?_)
    go_simp
    with_reducible refine (HCM.out _ (cV.out).b).mono ?_
    rintro e v2 ⟨rfl, hb⟩
    have bB := Lib.hid (cV.out.call hb)
    clear hb
    go_wp2_with fail
    refine hK.out _ _ bB.out.b (fun hHeld => ?_); clear hK K
    refine zs 6 12 rfl (fun K hK => ?_) rfl (fun K hK => ?_)
    go_simp
    with_reducible refine (HCS.out _ (bB.out).b).mono ?_
    rintro e v3 ⟨sp1, c1, sp2, c2, rfl, hoc, hop, hb⟩
    have aS := Lib.hid (bB.out.call hb)
    have fO := Lib.hid (hoc.base (bB.out.k))
    have fN := Lib.hid (hop.base (bB.out.k))
    clear hb
    go_wp2_with fail
    refine hK.out _ _ aS.out.b (fun hHeld => ?_); clear hK K
    refine zw 7 rfl (v := ?_) ?_ ?_; rotate_left
    ·intro w' hSw; go_simp; try with_reducible rfl
    try simp only [Act.put, zA, zB, zC, zD, zE, zF]
    refine zw 8 rfl (v := ?_) ?_ ?_; rotate_left
    ·intro w' hSw; go_simp; try with_reducible rfl
    try simp only [Act.put, zA, zB, zC, zD, zE, zF]
    refine zw 9 rfl (v := ?_) ?_ ?_; rotate_left
    ·intro w' hSw; go_simp; try with_reducible rfl
    try simp only [Act.put, zA, zB, zC, zD, zE, zF]
    refine zw 10 rfl (v := ?_) ?_ ?_; rotate_left
    ·intro w' hSw; go_simp; try with_reducible rfl
    try simp only [Act.put, zA, zB, zC, zD, zE, zF]
    refine zr 12 rfl (fun K hK => ?_)
    obtain ⟨gb, v4, hg, hw, aM, HEv4⟩ := aS.out.allocd (.cells (siA 0 aL aL) 67 (0, 0))
    go_simp
    try rw [hg]
    generalize hq : World.alloc v3 _ = q
    obtain rfl : v4 = q := hw.symm.trans hq
    clear hg hw hq
    have cN := Lib.hid (fO.out.below HEv4.out)
    have cM := Lib.hid (fN.out.below HEv4.out)
    refine hK.out _ _ aM.out.b (fun hHeld => ?_); clear hK K
    refine zr 13 rfl (fun K hK => ?_)
    rw [if_pos (by rfl)]
    refine wp_store_row 39 _ _ rfl ga (sgA x1 h1 n1) rfl rfl 39 _ (aM.out.at 1 rfl) (aE HX1.out) (by rw [aC aD, aC HX1.out]) (aW _ _ _) ?_
    generalize hw : World.setRow v4 _ _ = v5
    have aJ := Lib.hid (aM.out.set 1 rfl (sgA x1 h1 n1))
    rw [hw] at aJ
    have bH := Lib.hid (cN.out.setRow (aM.out.at 1 rfl) (by decide) (sgA x1 h1 n1))
    rw [hw] at bH
    have bF := Lib.hid (cM.out.setRow (aM.out.at 1 rfl) (by decide) (sgA x1 h1 n1))
    rw [hw] at bF
    clear hw
    refine hK.out _ _ aJ.out.b (fun hHeld => ?_); clear hK K
    refine zr 14 rfl (fun K hK => ?_)
    rw [if_pos (by rfl)]
    refine wp_store_row 67 _ _ rfl gb (siA l1 (.slice sp1 N c1) (.slice sp2 M c2)) rfl rfl 67 _ (aJ.out.at 0 rfl) (aN _ _ _) rfl (bQ _ _ _ _ _ _ _) ?_
    generalize hw : World.setRow v5 _ _ = v6
    have aI := Lib.hid (aJ.out.set 0 rfl (siA l1 (.slice sp1 N c1) (.slice sp2 M c2)))
    rw [hw] at aI
    have bG := Lib.hid (bH.out.setRow (aJ.out.at 0 rfl) (by decide) (siA l1 (.slice sp1 N c1) (.slice sp2 M c2)))
    rw [hw] at bG
    have bE := Lib.hid (bF.out.setRow (aJ.out.at 0 rfl) (by decide) (siA l1 (.slice sp1 N c1) (.slice sp2 M c2)))
    rw [hw] at bE
    clear hw
    refine hK.out _ _ aI.out.b (fun hHeld => ?_); clear hK K
    refine zw 15 rfl (v := ?_) ?_ ?_; rotate_left
    ·intro w' hSw; go_simp; try with_reducible rfl
    try simp only [Act.put, zA, zB, zC, zD, zE, zF]
    refine zd ?_ _
    go_wp2_with fail
    go_meet
    exact ⟨ga, gb, sp1, c1, sp2, c2, rfl, rfl, rfl, aI.out.at 1 rfl, aI.out.at 0 rfl, bG.out, bE.out, (aI.out.lt 1 rfl).1, (aI.out.lt 0 rfl).1, aI.out.b⟩
    obtain ⟨gb, v3, hg, hw, aS, HEv3⟩ := bB.out.allocd (.cells (siA 0 aL aL) 67 (0, 0))
    go_simp
    try rw [hg]
    generalize hq : World.alloc v2 _ = q
    obtain rfl : v3 = q := hw.symm.trans hq
    clear hg hw hq
    refine hK.out _ _ aS.out.b (fun hHeld => ?_); clear hK K
    refine zr 6 rfl (fun K hK => ?_)
    go_simp
    with_reducible refine (HCS.out _ (aS.out).b).mono ?_
    rintro e v4 ⟨sp1, c1, sp2, c2, rfl, hoc, hop, hb⟩
    have aM := Lib.hid (aS.out.call hb)
    have cN := Lib.hid (hoc.base (aS.out.k))
    have cM := Lib.hid (hop.base (aS.out.k))
    clear hb
    go_wp2_with fail
    refine hK.out _ _ aM.out.b (fun hHeld => ?_); clear hK K
    refine zw 7 rfl (v := ?_) ?_ ?_; rotate_left
    ·intro w' hSw; go_simp; try with_reducible rfl
    try simp only [Act.put, zA, zB, zC, zD, zE, zF]
    refine zw 8 rfl (v := ?_) ?_ ?_; rotate_left
    ·intro w' hSw; go_simp; try with_reducible rfl
    try simp only [Act.put, zA, zB, zC, zD, zE, zF]
    refine zw 9 rfl (v := ?_) ?_ ?_; rotate_left
    ·intro w' hSw; go_simp; try with_reducible rfl
    try simp only [Act.put, zA, zB, zC, zD, zE, zF]
    refine zw 10 rfl (v := ?_) ?_ ?_; rotate_left
    ·intro w' hSw; go_simp; try with_reducible rfl
    try simp only [Act.put, zA, zB, zC, zD, zE, zF]
    refine zr 13 rfl (fun K hK => ?_)
    rw [if_pos (by rfl)]
    refine wp_store_row 39 _ _ rfl ga (sgA x1 h1 n1) rfl rfl 39 _ (aM.out.at 1 rfl) (aE HX1.out) (by rw [aC aD, aC HX1.out]) (aW _ _ _) ?_
    generalize hw : World.setRow v4 _ _ = v5
    have aJ := Lib.hid (aM.out.set 1 rfl (sgA x1 h1 n1))
    rw [hw] at aJ
    have bH := Lib.hid (cN.out.setRow (aM.out.at 1 rfl) (by decide) (sgA x1 h1 n1))
    rw [hw] at bH
    have bF := Lib.hid (cM.out.setRow (aM.out.at 1 rfl) (by decide) (sgA x1 h1 n1))
    rw [hw] at bF
    clear hw
    refine hK.out _ _ aJ.out.b (fun hHeld => ?_); clear hK K
    refine zr 14 rfl (fun K hK => ?_)
    rw [if_pos (by rfl)]
    refine wp_store_row 67 _ _ rfl gb (siA l1 (.slice sp1 N c1) (.slice sp2 M c2)) rfl rfl 67 _ (aJ.out.at 0 rfl) (aN _ _ _) rfl (bQ _ _ _ _ _ _ _) ?_
    generalize hw : World.setRow v5 _ _ = v6
    have aI := Lib.hid (aJ.out.set 0 rfl (siA l1 (.slice sp1 N c1) (.slice sp2 M c2)))
    rw [hw] at aI
    have bG := Lib.hid (bH.out.setRow (aJ.out.at 0 rfl) (by decide) (siA l1 (.slice sp1 N c1) (.slice sp2 M c2)))
    rw [hw] at bG
    have bE := Lib.hid (bF.out.setRow (aJ.out.at 0 rfl) (by decide) (siA l1 (.slice sp1 N c1) (.slice sp2 M c2)))
    rw [hw] at bE
    clear hw
    refine hK.out _ _ aI.out.b (fun hHeld => ?_); clear hK K
    refine zw 15 rfl (v := ?_) ?_ ?_; rotate_left
    ·intro w' hSw; go_simp; try with_reducible rfl
    try simp only [Act.put, zA, zB, zC, zD, zE, zF]
    refine zd ?_ _
    go_wp2_with fail
    go_meet
    exact ⟨ga, gb, sp1, c1, sp2, c2, rfl, rfl, rfl, aI.out.at 1 rfl, aI.out.at 0 rfl, bG.out, bE.out, (aI.out.lt 1 rfl).1, (aI.out.lt 0 rfl).1, aI.out.b⟩
    obtain ⟨gb, v2, hg, hw, bB, iL⟩ := cV.out.allocd (.cells (siA 0 aL aL) 67 (0, 0))
    go_simp
    try rw [hg]
    generalize hq : World.alloc v1 _ = q
    obtain rfl : v2 = q := hw.symm.trans hq
    clear hg hw hq
    refine hK.out _ _ bB.out.b (fun hHeld => ?_); clear hK K
    refine zr 5 rfl (fun K hK => ?_)
    go_simp
    with_reducible refine (HCM.out _ (bB.out).b).mono ?_
    rintro e v3 ⟨rfl, hb⟩
    have aS := Lib.hid (bB.out.call hb)
    clear hb
    go_wp2_with fail
    refine hK.out _ _ aS.out.b (fun hHeld => ?_); clear hK K
    refine zr 6 rfl (fun K hK => ?_)
    go_simp
    with_reducible refine (HCS.out _ (aS.out).b).mono ?_
    rintro e v4 ⟨sp1, c1, sp2, c2, rfl, hoc, hop, hb⟩
    have aM := Lib.hid (aS.out.call hb)
    have cN := Lib.hid (hoc.base (aS.out.k))
    have cM := Lib.hid (hop.base (aS.out.k))
    clear hb
    go_wp2_with fail
    refine hK.out _ _ aM.out.b (fun hHeld => ?_); clear hK K
    refine zw 7 rfl (v := ?_) ?_ ?_; rotate_left
    ·intro w' hSw; go_simp; try with_reducible rfl
    try simp only [Act.put, zA, zB, zC, zD, zE, zF]
    refine zw 8 rfl (v := ?_) ?_ ?_; rotate_left
    ·intro w' hSw; go_simp; try with_reducible rfl
    try simp only [Act.put, zA, zB, zC, zD, zE, zF]
    refine zw 9 rfl (v := ?_) ?_ ?_; rotate_left
    ·intro w' hSw; go_simp; try with_reducible rfl
    try simp only [Act.put, zA, zB, zC, zD, zE, zF]
    refine zw 10 rfl (v := ?_) ?_ ?_; rotate_left
    ·intro w' hSw; go_simp; try with_reducible rfl
    try simp only [Act.put, zA, zB, zC, zD, zE, zF]
    refine zr 13 rfl (fun K hK => ?_)
    rw [if_pos (by rfl)]
    refine wp_store_row 39 _ _ rfl ga (sgA x1 h1 n1) rfl rfl 39 _ (aM.out.at 1 rfl) (aE HX1.out) (by rw [aC aD, aC HX1.out]) (aW _ _ _) ?_
    generalize hw : World.setRow v4 _ _ = v5
    have aJ := Lib.hid (aM.out.set 1 rfl (sgA x1 h1 n1))
    rw [hw] at aJ
    have bH := Lib.hid (cN.out.setRow (aM.out.at 1 rfl) (by decide) (sgA x1 h1 n1))
    rw [hw] at bH
    have bF := Lib.hid (cM.out.setRow (aM.out.at 1 rfl) (by decide) (sgA x1 h1 n1))
    rw [hw] at bF
    clear hw
    refine hK.out _ _ aJ.out.b (fun hHeld => ?_); clear hK K
    refine zr 14 rfl (fun K hK => ?_)
    rw [if_pos (by rfl)]
    refine wp_store_row 67 _ _ rfl gb (siA l1 (.slice sp1 N c1) (.slice sp2 M c2)) rfl rfl 67 _ (aJ.out.at 0 rfl) (aN _ _ _) rfl (bQ _ _ _ _ _ _ _) ?_
    generalize hw : World.setRow v5 _ _ = v6
    have aI := Lib.hid (aJ.out.set 0 rfl (siA l1 (.slice sp1 N c1) (.slice sp2 M c2)))
    rw [hw] at aI
    have bG := Lib.hid (bH.out.setRow (aJ.out.at 0 rfl) (by decide) (siA l1 (.slice sp1 N c1) (.slice sp2 M c2)))
    rw [hw] at bG
    have bE := Lib.hid (bF.out.setRow (aJ.out.at 0 rfl) (by decide) (siA l1 (.slice sp1 N c1) (.slice sp2 M c2)))
    rw [hw] at bE
    clear hw
    refine hK.out _ _ aI.out.b (fun hHeld => ?_); clear hK K
    refine zw 15 rfl (v := ?_) ?_ ?_; rotate_left
    ·intro w' hSw; go_simp; try with_reducible rfl
    try simp only [Act.put, zA, zB, zC, zD, zE, zF]
    refine zd ?_ _
    go_wp2_with fail
    go_meet
    exact ⟨ga, gb, sp1, c1, sp2, c2, rfl, rfl, rfl, aI.out.at 1 rfl, aI.out.at 0 rfl, bG.out, bE.out, (aI.out.lt 1 rfl).1, (aI.out.lt 0 rfl).1, aI.out.b⟩
    obtain ⟨gb, v1, hg, hw, cV, nZ⟩ := sY.out.allocdD (.cells (siA 0 aL aL) 67 (0, 0))
    go_simp
    try rw [hg]
    generalize hq : World.drew (World.alloc w1 _) = q
    obtain rfl : v1 = q := hw.symm.trans hq
    clear hg hw hq
    refine hK.out _ _ cV.out.b (fun hHeld => ?_); clear hK K
    refine zs 5 11 rfl (fun K hK => ?_) rfl (fun K hK => ?_)
    go_simp
    with_reducible refine (HCM.out _ (cV.out).b).mono ?_
    rintro e v2 ⟨rfl, hb⟩
    have bB := Lib.hid (cV.out.call hb)
    clear hb
    go_wp2_with fail
    refine hK.out _ _ bB.out.b (fun hHeld => ?_); clear hK K
    refine zs 6 11 rfl (fun K hK => ?_) rfl (fun K hK => ?_)
    go_simp
    with_reducible refine (HCS.out _ (bB.out).b).mono ?_
    rintro e v3 ⟨sp1, c1, sp2, c2, rfl, hoc, hop, hb⟩
    have aS := Lib.hid (bB.out.call hb)
    have fO := Lib.hid (hoc.base (bB.out.k))
    have fN := Lib.hid (hop.base (bB.out.k))
    clear hb
    go_wp2_with fail
    refine hK.out _ _ aS.out.b (fun hHeld => ?_); clear hK K
    refine zw 7 rfl (v := ?_) ?_ ?_; rotate_left
    ·intro w' hSw; go_simp; try with_reducible rfl
    try simp only [Act.put, zA, zB, zC, zD, zE, zF]
    refine zw 8 rfl (v := ?_) ?_ ?_; rotate_left
    ·intro w' hSw; go_simp; try with_reducible rfl
    try simp only [Act.put, zA, zB, zC, zD, zE, zF]
    refine zw 9 rfl (v := ?_) ?_ ?_; rotate_left
    ·intro w' hSw; go_simp; try with_reducible rfl
    try simp only [Act.put, zA, zB, zC, zD, zE, zF]
    refine zw 10 rfl (v := ?_) ?_ ?_; rotate_left
    ·intro w' hSw; go_simp; try with_reducible rfl
    try simp only [Act.put, zA, zB, zC, zD, zE, zF]
    refine zr 11 rfl (fun K hK => ?_)
    obtain ⟨ga, v4, hg, hw, aM, HEv4⟩ := aS.out.allocd (.cells (sgA bI 0 0) 39 (0, 0))
    go_simp
    try rw [hg]
    generalize hq : World.alloc v3 _ = q
    obtain rfl : v4 = q := hw.symm.trans hq
    clear hg hw hq
    have cN := Lib.hid (fO.out.below HEv4.out)
    have cM := Lib.hid (fN.out.below HEv4.out)
    refine hK.out _ _ aM.out.b (fun hHeld => ?_); clear hK K
    refine zr 13 rfl (fun K hK => ?_)
    rw [if_pos (by rfl)]
    refine wp_store_row 39 _ _ rfl ga (sgA x1 h1 n1) rfl rfl 39 _ (aM.out.at 0 rfl) (aE HX1.out) (by rw [aC aD, aC HX1.out]) (aW _ _ _) ?_
    generalize hw : World.setRow v4 _ _ = v5
    have aJ := Lib.hid (aM.out.set 0 rfl (sgA x1 h1 n1))
    rw [hw] at aJ
    have bH := Lib.hid (cN.out.setRow (aM.out.at 0 rfl) (by decide) (sgA x1 h1 n1))
    rw [hw] at bH
    have bF := Lib.hid (cM.out.setRow (aM.out.at 0 rfl) (by decide) (sgA x1 h1 n1))
    rw [hw] at bF
    clear hw
    refine hK.out _ _ aJ.out.b (fun hHeld => ?_); clear hK K
    refine zr 14 rfl (fun K hK => ?_)
    rw [if_pos (by rfl)]
    refine wp_store_row 67 _ _ rfl gb (siA l1 (.slice sp1 N c1) (.slice sp2 M c2)) rfl rfl 67 _ (aJ.out.at 1 rfl) (aN _ _ _) rfl (bQ _ _ _ _ _ _ _) ?_
    generalize hw : World.setRow v5 _ _ = v6
    have aI := Lib.hid (aJ.out.set 1 rfl (siA l1 (.slice sp1 N c1) (.slice sp2 M c2)))
    rw [hw] at aI
    have bG := Lib.hid (bH.out.setRow (aJ.out.at 1 rfl) (by decide) (siA l1 (.slice sp1 N c1) (.slice sp2 M c2)))
    rw [hw] at bG
    have bE := Lib.hid (bF.out.setRow (aJ.out.at 1 rfl) (by decide) (siA l1 (.slice sp1 N c1) (.slice sp2 M c2)))
    rw [hw] at bE
    clear hw
    refine hK.out _ _ aI.out.b (fun hHeld => ?_); clear hK K
    refine zw 15 rfl (v := ?_) ?_ ?_; rotate_left
    ·intro w' hSw; go_simp; try with_reducible rfl
    try simp only [Act.put, zA, zB, zC, zD, zE, zF]
    refine zd ?_ _
    go_wp2_with fail
    go_meet
    exact ⟨ga, gb, sp1, c1, sp2, c2, rfl, rfl, rfl, aI.out.at 0 rfl, aI.out.at 1 rfl, bG.out, bE.out, (aI.out.lt 0 rfl).1, (aI.out.lt 1 rfl).1, aI.out.b⟩
    obtain ⟨ga, v3, hg, hw, aS, HEv3⟩ := bB.out.allocd (.cells (sgA bI 0 0) 39 (0, 0))
    go_simp
    try rw [hg]
    generalize hq : World.alloc v2 _ = q
    obtain rfl : v3 = q := hw.symm.trans hq
    clear hg hw hq
    refine hK.out _ _ aS.out.b (fun hHeld => ?_); clear hK K
    refine zr 6 rfl (fun K hK => ?_)
    go_simp
    with_reducible refine (HCS.out _ (aS.out).b).mono ?_
    rintro e v4 ⟨sp1, c1, sp2, c2, rfl, hoc, hop, hb⟩
    have aM := Lib.hid (aS.out.call hb)
    have cN := Lib.hid (hoc.base (aS.out.k))
    have cM := Lib.hid (hop.base (aS.out.k))
    clear hb
    go_wp2_with fail
    refine hK.out _ _ aM.out.b (fun hHeld => ?_); clear hK K
    refine zw 7 rfl (v := ?_) ?_ ?_; rotate_left
    ·intro w' hSw; go_simp; try with_reducible rfl
    try simp only [Act.put, zA, zB, zC, zD, zE, zF]
    refine zw 8 rfl (v := ?_) ?_ ?_; rotate_left
    ·intro w' hSw; go_simp; try with_reducible rfl
    try simp only [Act.put, zA, zB, zC, zD, zE, zF]
    refine zw 9 rfl (v := ?_) ?_ ?_; rotate_left
    ·intro w' hSw; go_simp; try with_reducible rfl
    try simp only [Act.put, zA, zB, zC, zD, zE, zF]
    refine zw 10 rfl (v := ?_) ?_ ?_; rotate_left
    ·intro w' hSw; go_simp; try with_reducible rfl
    try simp only [Act.put, zA, zB, zC, zD, zE, zF]
    refine zr 13 rfl (fun K hK => ?_)
    rw [if_pos (by rfl)]
    refine wp_store_row 39 _ _ rfl ga (sgA x1 h1 n1) rfl rfl 39 _ (aM.out.at 0 rfl) (aE HX1.out) (by rw [aC aD, aC HX1.out]) (aW _ _ _) ?_
    generalize hw : World.setRow v4 _ _ = v5
    have aJ := Lib.hid (aM.out.set 0 rfl (sgA x1 h1 n1))
    rw [hw] at aJ
    have bH := Lib.hid (cN.out.setRow (aM.out.at 0 rfl) (by decide) (sgA x1 h1 n1))
    rw [hw] at bH
    have bF := Lib.hid (cM.out.setRow (aM.out.at 0 rfl) (by decide) (sgA x1 h1 n1))
    rw [hw] at bF
    clear hw
    refine hK.out _ _ aJ.out.b (fun hHeld => ?_); clear hK K
    refine zr 14 rfl (fun K hK => ?_)
    rw [if_pos (by rfl)]
    refine wp_store_row 67 _ _ rfl gb (siA l1 (.slice sp1 N c1) (.slice sp2 M c2)) rfl rfl 67 _ (aJ.out.at 1 rfl) (aN _ _ _) rfl (bQ _ _ _ _ _ _ _) ?_
    generalize hw : World.setRow v5 _ _ = v6
    have aI := Lib.hid (aJ.out.set 1 rfl (siA l1 (.slice sp1 N c1) (.slice sp2 M c2)))
    rw [hw] at aI
    have bG := Lib.hid (bH.out.setRow (aJ.out.at 1 rfl) (by decide) (siA l1 (.slice sp1 N c1) (.slice sp2 M c2)))
    rw [hw] at bG
    have bE := Lib.hid (bF.out.setRow (aJ.out.at 1 rfl) (by decide) (siA l1 (.slice sp1 N c1) (.slice sp2 M c2)))
    rw [hw] at bE
    clear hw
    refine hK.out _ _ aI.out.b (fun hHeld => ?_); clear hK K
    refine zw 15 rfl (v := ?_) ?_ ?_; rotate_left
    ·intro w' hSw; go_simp; try with_reducible rfl
    try simp only [Act.put, zA, zB, zC, zD, zE, zF]
    refine zd ?_ _
    go_wp2_with fail
    go_meet
    exact ⟨ga, gb, sp1, c1, sp2, c2, rfl, rfl, rfl, aI.out.at 0 rfl, aI.out.at 1 rfl, bG.out, bE.out, (aI.out.lt 0 rfl).1, (aI.out.lt 1 rfl).1, aI.out.b⟩
    obtain ⟨ga, v2, hg, hw, bB, iL⟩ := cV.out.allocd (.cells (sgA bI 0 0) 39 (0, 0))
    go_simp
    try rw [hg]
    generalize hq : World.alloc v1 _ = q
    obtain rfl : v2 = q := hw.symm.trans hq
    clear hg hw hq
    refine hK.out _ _ bB.out.b (fun hHeld => ?_); clear hK K
    refine zr 5 rfl (fun K hK => ?_)
    go_simp
    with_reducible refine (HCM.out _ (bB.out).b).mono ?_
    rintro e v3 ⟨rfl, hb⟩
    have aS := Lib.hid (bB.out.call hb)
    clear hb
    go_wp2_with fail
    refine hK.out _ _ aS.out.b (fun hHeld => ?_); clear hK K
    refine zr 6 rfl (fun K hK => ?_)
    go_simp
    with_reducible refine (HCS.out _ (aS.out).b).mono ?_
    rintro e v4 ⟨sp1, c1, sp2, c2, rfl, hoc, hop, hb⟩
    have aM := Lib.hid (aS.out.call hb)
    have cN := Lib.hid (hoc.base (aS.out.k))
    have cM := Lib.hid (hop.base (aS.out.k))
    clear hb
    go_wp2_with fail
    refine hK.out _ _ aM.out.b (fun hHeld => ?_); clear hK K
    refine zw 7 rfl (v := ?_) ?_ ?_; rotate_left
    ·intro w' hSw; go_simp; try with_reducible rfl
    try simp only [Act.put, zA, zB, zC, zD, zE, zF]
    refine zw 8 rfl (v := ?_) ?_ ?_; rotate_left
    ·intro w' hSw; go_simp; try with_reducible rfl
    try simp only [Act.put, zA, zB, zC, zD, zE, zF]
    refine zw 9 rfl (v := ?_) ?_ ?_; rotate_left
    ·intro w' hSw; go_simp; try with_reducible rfl
    try simp only [Act.put, zA, zB, zC, zD, zE, zF]
    refine zw 10 rfl (v := ?_) ?_ ?_; rotate_left
    ·intro w' hSw; go_simp; try with_reducible rfl
    try simp only [Act.put, zA, zB, zC, zD, zE, zF]
    refine zr 13 rfl (fun K hK => ?_)
    rw [if_pos (by rfl)]
    refine wp_store_row 39 _ _ rfl ga (sgA x1 h1 n1) rfl rfl 39 _ (aM.out.at 0 rfl) (aE HX1.out) (by rw [aC aD, aC HX1.out]) (aW _ _ _) ?_
    generalize hw : World.setRow v4 _ _ = v5
    have aJ := Lib.hid (aM.out.set 0 rfl (sgA x1 h1 n1))
    rw [hw] at aJ
    have bH := Lib.hid (cN.out.setRow (aM.out.at 0 rfl) (by decide) (sgA x1 h1 n1))
    rw [hw] at bH
    have bF := Lib.hid (cM.out.setRow (aM.out.at 0 rfl) (by decide) (sgA x1 h1 n1))
    rw [hw] at bF
    clear hw
    refine hK.out _ _ aJ.out.b (fun hHeld => ?_); clear hK K
    refine zr 14 rfl (fun K hK => ?_)
    rw [if_pos (by rfl)]
    refine wp_store_row 67 _ _ rfl gb (siA l1 (.slice sp1 N c1) (.slice sp2 M c2)) rfl rfl 67 _ (aJ.out.at 1 rfl) (aN _ _ _) rfl (bQ _ _ _ _ _ _ _) ?_
    generalize hw : World.setRow v5 _ _ = v6
    have aI := Lib.hid (aJ.out.set 1 rfl (siA l1 (.slice sp1 N c1) (.slice sp2 M c2)))
    rw [hw] at aI
    have bG := Lib.hid (bH.out.setRow (aJ.out.at 1 rfl) (by decide) (siA l1 (.slice sp1 N c1) (.slice sp2 M c2)))
    rw [hw] at bG
    have bE := Lib.hid (bF.out.setRow (aJ.out.at 1 rfl) (by decide) (siA l1 (.slice sp1 N c1) (.slice sp2 M c2)))
    rw [hw] at bE
    clear hw
    refine hK.out _ _ aI.out.b (fun hHeld => ?_); clear hK K
    refine zw 15 rfl (v := ?_) ?_ ?_; rotate_left
    ·intro w' hSw; go_simp; try with_reducible rfl
    try simp only [Act.put, zA, zB, zC, zD, zE, zF]
    refine zd ?_ _
    go_wp2_with fail
    go_meet
    exact ⟨ga, gb, sp1, c1, sp2, c2, rfl, rfl, rfl, aI.out.at 0 rfl, aI.out.at 1 rfl, bG.out, bE.out, (aI.out.lt 0 rfl).1, (aI.out.lt 1 rfl).1, aI.out.b⟩
  case rest =>
  obtain ⟨ga, gb, sp1, c1, sp2, c2, rfl, rfl, rfl, HC1⟩ := hcut
  have HFc := Lib.hid (HF1.out.belowB HC1.out.2.2.2.2.2.2 OC.out)
  have HGA := Lib.hid HC1.out.1; have HGB := Lib.hid HC1.out.2.1; have HOC := Lib.hid HC1.out.2.2.1; have HOP := Lib.hid HC1.out.2.2.2.1
  have hga := HC1.out.2.2.2.2.1; have hgb := HC1.out.2.2.2.2.2.1
  have hBk := OC.out
  have hgal := (Array.getElem?_eq_some_iff.1 HGA.out).1; have hgbl := (Array.getElem?_eq_some_iff.1 HGB.out).1
  clear HC1 HCM HCS sY HF1 CH
  have hbe := jL
  have hbs := eQ
  rcases HS.out.k with ⟨hE, rfl, rfl, rfl⟩ | ⟨rfl, hk, leaf, rfl, rfl, hk6, hlf, rfl, rfl, rfl, rfl, rfl, rfl, rfl, rfl⟩
  ·have HVE : Hid (V = tF E) := by
    have := GG (x := x) HVL.out (show sgE h n ≠ 0 by rw [← HS.out.e]; exact hE)
    rw [HV.out] at this
    rw [HS.out.e]; exact this
   have hq : (E == 0) = false := by simpa using hE
   have HNE := Lib.hid hE
   clear hE
   go_wp2_with (first
    | (refine wpList_store_row rfl 25 _ _ rfl (w.heap.size + 1 + 1) zEn rfl rfl 25 _ HFc.out.y (aP _ _ _) rfl (cX _ _ _ _ _ _ _) ?_; generalize hw8 : World.setRow wc _ _ = w8; have HY8 : Hid (w8.heap[w.heap.size + 1 + 1]? = some (.cells zEn 25 (0, 0))) := (by rw [← hw8]; exact setRow_heap _ _ _ _ _ _ HFc.out.y); have HZ8 : Hid (w8.heap[w.heap.size + 1 + 1 + 1]? = some (.cells (sgA bI 0 0) 39 (0, 0))) := (by rw [← hw8]; exact (setRow_other _ _ _ _ (by omega)).trans HFc.out.z); have HB8 : Hid (Below w.heap.size w w8) := (by rw [← hw8]; exact below_setRow HFc.out.b (by omega) _); clear hw8)
    | (refine wpList_store_row rfl 39 _ _ rfl (w.heap.size + 1 + 1 + 1) (sgA bI 0 0) rfl rfl 39 _ HZ8.out (aE aD) rfl (aW _ _ _) ?_; generalize hw9 : World.setRow w8 _ _ = w9; have HZ9 : Hid (w9.heap[w.heap.size + 1 + 1 + 1]? = some (.cells (sgA bI 0 0) 39 (0, 0))) := (by rw [← hw9]; exact setRow_heap _ _ _ _ _ _ HZ8.out); have HY9 : Hid (w9.heap[w.heap.size + 1 + 1]? = some (.cells zEn 25 (0, 0))) := (by rw [← hw9]; exact (setRow_other _ _ _ _ (by omega)).trans HY8.out); have HB9 : Hid (Below w.heap.size w w9) := (by rw [← hw9]; exact below_setRow HB8.out (by omega) _); clear hw9))
   exact bodyPost_ret (aV (P := Tryz.prog) rfl _ _ (w.heap.size + 1 + 1) (w.heap.size + 1 + 1 + 1) 25 39 _ _ (0, 0) (0, 0) _ _ rfl HY9.out rfl HZ9.out Tryz.underlying25 rfl (aP _ _ _) Tryz.underlying39 rfl (aE aD)) rfl (by rw [HVE.out]; exact SgO.err HNE.out HB9.out)
  ·have HE0 : Hid (sgE (hk : Int) (leaf : Int) = 0) := HS.out.e.symm
   have OA : Hid (jX x (hk : Int) (leaf : Int) d = ⟨hk, gP x hk 0, leaf, eK x leaf d, dA x hk leaf⟩) := by show _ = _; unfold jX; rw [Int.toNat_natCast, Int.toNat_natCast]
   clear HS hbe hbs
   have cH := xE HX.out HFc.out.s
   have HXS := Lib.hid (LL HFc.out.s)
   have HIX := Lib.hid (bX HX.out)
   have HCN := Lib.hid (DX x hk wc HX.out hk6)
   go_wp2_with (refine wpList_load_mid rfl 37 _ rfl (w.heap.size + 1) 0 rfl _ _ HXS.out Tryz.underlying37 rfl HIX.out ?_)
   refine HCN.out.mono ?_
   rintro e w2 ⟨rfl, hb⟩
   have HB2 := Lib.hid hb
   clear hb cH HCN HXS
   have HNK := Lib.hid (eZ x hk 0)
   generalize hr : gP x hk 0 = r at *
   have HRE := Lib.hid hr
   clear hr
   have HZP := Lib.hid (PkRow.new w2 0 bI)
   have HRP := Lib.hid (PkRow.new w2 hk r)
   go_upto_region 7 with (refine wpList_store_row rfl 64 _ _ rfl w2.heap.size _ rfl rfl 64 _ HZP.out.k (dN HNK.out) (by rw [hU HNK.out]; rfl) (vM _ _) ?_; rw [cA]; generalize hw3 : World.alloc w2 _ = w3; have HP3 : Hid (PkRow w2 hk r w3) := (by rw [← hw3]; exact HRP.out); clear hw3 HZP HRP)
   have HB3 : Hid (Below wc.heap.size wc w3) := HB2.out.trans (HP3.out.b.mono HB2.out.size)
   have hs2 := HB2.out.size
   obtain ⟨X, hX⟩ : ∃ X : Sg, X = ⟨hk, r, leaf, sp1, 68, c1, eK x leaf d, sp2, hk, c2, dA x hk leaf⟩ := ⟨_, rfl⟩
   have HXO : Hid (OkG X) := by rw [hX]; exact HNK.out
   have HXP : Hid (pg X = jX x hk leaf d) := by rw [hX, OA.out]; rfl
   have HXT : Hid (SgT wc B X) := by rw [hX]; exact ⟨HNK.out, HOC.out, HOP.out, hO _ _ _, fJ _ _ _⟩
   have HBX : Hid (∀ w', (Instr.build 69 #[(0, .agg (pkA (hk : Int) r)), (1, .agg (siA (leaf : Int) (.slice sp1 68 c1) (.slice sp2 hk c2)))]).run Tryz.prog w' = .ok (.agg (bL X).toArray) w') := fun w' => by have h := GU (⟨hk, r, leaf, sp1, 68, c1, eK x leaf d, sp2, hk, c2, dA x hk leaf⟩ : Sg) HNK.out w'; rw [hX]; exact h
   have LP : Hid (dg (idB (hk : Int) r) = dv (idP (pg X))) := by show _ = _; rw [hX]; rfl
   clear hX OA HRE
   obtain ⟨gp, hgp⟩ : ∃ gp, gp = w2.heap.size := ⟨_, rfl⟩
   have HPK3 : Hid (w3.heap[gp]? = some (.cells (pkA (hk : Int) r) 64 (0, 0))) := by rw [hgp]; exact HP3.out.k
   have hgp3 : gp < w3.heap.size := (Array.getElem?_eq_some_iff.1 HPK3.out).1
   have HF3 := Lib.hid (HFc.out.below HB3.out)
   have HUP3 := Lib.hid (HUP.out _ HF3.out.b)
   rw [← hgp]
   have hgpc : wc.heap.size ≤ gp := by omega
   clear HP3 HB2 hs2 hgp
   obtain ⟨B3, hB3e⟩ : ∃ B3, B3 = w3.heap.size := ⟨_, rfl⟩
   have OD : Hid (w.heap.size < B3 ∧ gp < B3) := ⟨by have := HF3.out.k; omega, by omega⟩
   have sZ : Hid (Below B3 w3 w3) := Below.refl _ _
   have hBk3 : B3 ≤ w3.heap.size := Nat.le_of_eq hB3e
   have HCI : Hid (∀ w', Calls Tryz.prog 35 #[.agg (pkL (hk : Int) r).toArray] w' fun e w'' => e = .returned (.agg (dv (idP (pg X)))) ∧ Below w'.heap.size w' w'') := fun w' => by
    have h := lE hk r w' HNK.out
    rw [LP.out] at h
    exact h
   have HCF : Hid (∀ w', Below B3 w3 w' → Calls Tryz.prog 47 #[.slice sq m cq, .agg (dv (idP (pg X)))] w' fun e w'' => ∃ i : Int, e = .returned (.int .i64 i) ∧ decide (0 ≤ i) = tE (l.map pg) (jX x hk leaf d) ∧ Below w'.heap.size w' w'') := fun w' hb => by
    have h := AD sq m cq l (idP (pg X)) w' (HUP.out _ (HF3.out.b.trans (hb.mono (Nat.le_of_lt OD.out.1)))).2 (gV _) (by omega)
    have hq : MV (l.map pg) (idP (pg X)) = tE (l.map pg) (jX x hk leaf d) := by rw [MU, HXP.out]
    rw [hq] at h
    exact h
   obtain ⟨dv0, hdv0⟩ : ∃ dv0, dv (idP (pg X)) = dv0 := ⟨_, rfl⟩
   rw [hdv0] at HCI HCF
   have HB3L : Hid (w3.heap.size ≤ B3) := Nat.le_of_eq hB3e.symm
   clear hB3e hdv0 LP HUP3
   refine wp_region_held_drew (S := fun w' => Below B3 w3 w') (by kernel_rfl) sZ.out.drew (fun hHeld => ?_)
   refine zw 0 rfl (v := ?_) ?_ ?_; rotate_left
   ·intro w' hSw; go_simp; try with_reducible rfl
   try simp only [Act.put, zA, zB, zC, zD, zE, zF]
   refine zw 1 rfl (v := ?_) ?_ ?_; rotate_left
   ·intro w' hSw; have c0 := iX ((hSw.block _ OD.out.1).trans HF3.out.e); go_simp; try with_reducible rfl
   try simp only [Act.put, zA, zB, zC, zD, zE, zF]
   refine' zk 2 rfl (v := _) (yieldsIf_load_mid (by rfl) _ _ rfl _ _ rfl _ _ ?hS2n67 Tryz.underlying64 rfl (iC HNK.out)) ?rest2n67
   case hS2n67 =>
    intro w' hSw
    exact aT (L := pkL (hk : Int) r) ((hSw.block _ OD.out.2).trans HPK3.out)
   try simp only [Act.put, zA, zB, zC, zD, zE, zF]
   refine zr 3 rfl (fun K hK => ?_)
   go_simp
   with_reducible refine (HCI.out _).mono ?_
   rintro e v1 ⟨rfl, hb⟩
   have fE : Hid (Below B3 w3 v1) := (sZ.out.drew).trans (hb.mono (by have := ((sZ.out.drew)).size; have := hBk3; omega))
   clear hb
   go_wp2_with fail
   refine hK.out _ _ fE.out (fun hHeld => ?_); clear hK K
   try simp only [Act.put, zA, zB, zC, zD, zE, zF]
   refine zr 4 rfl (fun K hK => ?_)
   go_simp
   with_reducible refine (HCF.out _ fE.out).mono ?_
   rintro e w5 ⟨i, rfl, hfi, hb⟩
   have FR : Hid (Below B3 w3 w5) := fE.out.trans (hb.mono (by have := (fE.out).size; have := hBk3; omega))
   clear hb
   go_wp2_with fail
   refine hK.out _ _ FR.out (fun hHeld => ?_); clear hK K
   try simp only [Act.put, zA, zB, zC, zD, zE, zF]
   refine zw 5 rfl (v := ?_) ?_ ?_; rotate_left
   ·intro w' hSw; go_simp; try with_reducible rfl
   try simp only [Act.put, zA, zB, zC, zD, zE, zF]
   refine zd ?_ _
   clear hHeld
   have hc3 := HB3.out.size
   have FU : Hid (Below wc.heap.size wc w5) := HB3.out.trans (FR.out.mono (by have := OD.out; omega))
   have HF5 := Lib.hid (HFc.out.below FU.out)
   have HPK5 : Hid (w5.heap[gp]? = some (.cells (pkA (hk : Int) r) 64 (0, 0))) := (FR.out.block _ OD.out.2).trans HPK3.out
   have HGB5 : Hid (w5.heap[gb]? = some (.cells (siA (leaf : Int) (.slice sp1 68 c1) (.slice sp2 hk c2)) 67 (0, 0))) := (FU.out.block _ hgbl).trans HGB.out
   clear fE FR sZ HCI HCF HF3 HPK3 HGB HB3L
   have hbe := jL
   have hbs := eQ
   have cS := iX HF5.out.e
   have hlm : (l.map pg).length = m := by rw [List.length_map]; exact HL.out.len
   have HLM := Lib.hid hlm
   clear hlm
   cases hhas : tE (l.map pg) (jX x hk leaf d)
   ·have OF := Lib.hid hhas
    rw [hhas] at hfi
    clear hhas
    by_cases h8e : m = 8
    ·have HVE : Hid (V = tF 3) := by
      have := GF (x := x) HVL.out HE0.out (by rw [hMD]; exact OF.out) (by rw [HLM.out]; exact h8e)
      rw [HV.out] at this; exact this
     have hq : ((m : Int) == 8) = true := by rw [h8e]; rfl
     go_wp2_with (first
      | (refine wpList_store_row rfl 25 _ _ rfl (w.heap.size + 1 + 1) zEn rfl rfl 25 _ HF5.out.y (aP _ _ _) rfl (cX _ _ _ _ _ _ _) ?_; generalize hw8 : World.setRow w5 _ _ = w8; have HY8 : Hid (w8.heap[w.heap.size + 1 + 1]? = some (.cells zEn 25 (0, 0))) := (by rw [← hw8]; exact setRow_heap _ _ _ _ _ _ HF5.out.y); have HZ8 : Hid (w8.heap[w.heap.size + 1 + 1 + 1]? = some (.cells (sgA bI 0 0) 39 (0, 0))) := (by rw [← hw8]; exact (setRow_other _ _ _ _ (by omega)).trans HF5.out.z); have HB8 : Hid (Below w.heap.size w w8) := (by rw [← hw8]; exact below_setRow HF5.out.b (by omega) _); clear hw8)
      | (refine wpList_store_row rfl 39 _ _ rfl (w.heap.size + 1 + 1 + 1) (sgA bI 0 0) rfl rfl 39 _ HZ8.out (aE aD) rfl (aW _ _ _) ?_; generalize hw9 : World.setRow w8 _ _ = w9; have HZ9 : Hid (w9.heap[w.heap.size + 1 + 1 + 1]? = some (.cells (sgA bI 0 0) 39 (0, 0))) := (by rw [← hw9]; exact setRow_heap _ _ _ _ _ _ HZ8.out); have HY9 : Hid (w9.heap[w.heap.size + 1 + 1]? = some (.cells zEn 25 (0, 0))) := (by rw [← hw9]; exact (setRow_other _ _ _ _ (by omega)).trans HY8.out); have HB9 : Hid (Below w.heap.size w w9) := (by rw [← hw9]; exact below_setRow HB8.out (by omega) _); clear hw9))
     exact bodyPost_ret (aV (P := Tryz.prog) rfl _ _ (w.heap.size + 1 + 1) (w.heap.size + 1 + 1 + 1) 25 39 _ _ (0, 0) (0, 0) _ _ rfl HY9.out rfl HZ9.out Tryz.underlying25 rfl (aP _ _ _) Tryz.underlying39 rfl (aE aD)) rfl (by rw [HVE.out]; exact SgO.err (by decide) HB9.out)
    ·have HVE : Hid (V = ⟨0, t, b, nW (l.map pg) (jX x hk leaf d), x, hk, leaf + 1⟩) := by
      have := zW (x := x) HVL.out HE0.out (by rw [hMD]; exact OF.out) (by rw [HLM.out]; exact h8e)
      rw [HV.out, hMD] at this; exact this
     have hq : ((m : Int) == 8) = false := by simp; omega
     clear hbe hbs
     have NN := Lib.hid (HUP.out _ HF5.out.b)
     have HXT5 : Hid (SgT w5 B X) := HXT.out.below FU.out
     have hBk5 : w.heap.size + 4 ≤ w5.heap.size := HF5.out.k
     have hc5 := FU.out.size
     have HCN := Lib.hid (rN sq m cq l X w5 NN.out.2 HLNN.out HXO.out HXT5.out.dat (by omega))
     go_wp2_with (first
      | (refine wpList_load_row rfl 64 _ rfl gp rfl 64 _ (0, 0) _ HPK5.out Tryz.underlying64 rfl (dN HNK.out) ?_)
      | (refine wpList_load_row rfl 67 _ rfl gb rfl 67 _ (0, 0) _ HGB5.out Tryz.underlying67 rfl (aN _ _ _) ?_)
      | (refine cF rfl 69 [(0, .tmp 57), (1, .tmp 58)] rfl [(0, .agg (pkA (hk : Int) r)), (1, .agg (siA (leaf : Int) (.slice sp1 68 c1) (.slice sp2 hk c2)))] rfl _ (HBX.out _) ?_))
     refine HCN.out.mono ?_
     rintro e w9 ⟨sp9, cap9, k, hkm, rfl, HO9', hlo, hst, hb⟩
     have HB9 : Hid (Below w5.heap.size w5 w9) := hb
     have HO9 := Lib.hid HO9'
     have HIA := Lib.hid (AZ (by rw [List.length_map, HL.out.len]; exact hkm) hlo (HiP.of LN.out hst))
     rw [HXP.out] at HIA
     clear hb HO9' hlo hst HCN cS NN
     have HF9 := Lib.hid (HF5.out.below HB9.out)
     have NM : Hid (SgT w9 B X) := HXT5.out.below HB9.out
     have cS9 := iX HF9.out.e
     have fS9 := frozen_of_row _ _ 2 _ _ HF9.out.e
     have OI : Hid ((w9.setCell ⟨w.heap.size, 2, none⟩ (.slice sp9 (m + 1) cap9)).heap[w.heap.size]? = some (.cells (enA t (.slice sp n0 cap) (.slice sp9 (m + 1) cap9)) 25 (0, 0))) := by
      have h := heap_setCell_same w9 w.heap.size 2 _ _ (.slice sp9 (m + 1) cap9) HF9.out.e
      rw [wI] at h
      exact h
     have HO10 : Hid (OwnG (w9.setCell ⟨w.heap.size, 2, none⟩ (.slice sp9 (m + 1) cap9)) w5.heap.size (.slice sp9 (m + 1) cap9) (l.take k ++ X :: l.drop k)) := ⟨World.ownsRow.kept HO9.out.1 (aX _ _ _ _) (cW HO9.out.1 HF9.out.e (by decide)), HO9.out.2⟩
     have KV : Hid (SgT (w9.setCell ⟨w.heap.size, 2, none⟩ (.slice sp9 (m + 1) cap9)) B X) := NM.out.setCell HF9.out.e xT _ _
     have HBA0 : Hid (Below w.heap.size w (w9.setCell ⟨w.heap.size, 2, none⟩ (.slice sp9 (m + 1) cap9))) := HF9.out.b.setCell (p := ⟨w.heap.size, 2, none⟩) (Nat.le_refl _) _
     have HB1A0 : Hid (Below (w.heap.size + 1) w9 (w9.setCell ⟨w.heap.size, 2, none⟩ (.slice sp9 (m + 1) cap9)) ∨ True) := .inr trivial
     have HYA0 : Hid ((w9.setCell ⟨w.heap.size, 2, none⟩ (.slice sp9 (m + 1) cap9)).heap[w.heap.size + 1 + 1]? = some (.cells zEn 25 (0, 0))) := (heap_setCell_other w9 ⟨w.heap.size, 2, none⟩ _ _ (show _ ≠ w.heap.size by omega)).trans HF9.out.y
     have HZA0 : Hid ((w9.setCell ⟨w.heap.size, 2, none⟩ (.slice sp9 (m + 1) cap9)).heap[w.heap.size + 1 + 1 + 1]? = some (.cells (sgA bI 0 0) 39 (0, 0))) := (heap_setCell_other w9 ⟨w.heap.size, 2, none⟩ _ _ (show _ ≠ w.heap.size by omega)).trans HF9.out.z
     have hlw : w.heap.size + 4 ≤ ga := by omega
     have HGA0 : Hid ((w9.setCell ⟨w.heap.size, 2, none⟩ (.slice sp9 (m + 1) cap9)).heap[ga]? = some (.cells (sgA x (hk : Int) ((leaf : Int) + 1)) 39 (0, 0))) := (heap_setCell_other w9 ⟨w.heap.size, 2, none⟩ _ _ (show _ ≠ w.heap.size by omega)).trans ((HB9.out.block _ (by omega)).trans ((FU.out.block _ hgal).trans HGA.out))
     clear HB1A0
     go_upto_region 12 with fail
     generalize World.setCell w9 _ _ = wA at *
     have HYA := HYA0; have HZA := HZA0; have OH := HGA0; have HBA := HBA0
     clear HYA0 HZA0 HGA0 HBA0 cS9 fS9 HO9 NM HF9 HXT5 HPK5 HGB5
     have hwA := HBA.out.size
     have LA := Lib.hid (HO10.out.below (Below.refl _ _).drew); have KU := Lib.hid (KV.out.below (Below.refl _ _).drew)
     have HYD : Hid (wA.drew.heap[w.heap.size + 1 + 1]? = some (.cells zEn 25 (0, 0))) := HYA.out
     refine wp_region_held_drew (S := fun w' => w'.heap[w.heap.size]? = some (.cells (enA t (.slice sp n0 cap) (.slice sp9 (m + 1) cap9)) 25 (0, 0)) ∧ w'.heap[ga]? = some (.cells (sgA x (hk : Int) ((leaf : Int) + 1)) 39 (0, 0))) (by kernel_rfl) ⟨OI.out, OH.out⟩ (fun hHeld => ?_)
     refine' zk 0 rfl (v := _) (yieldsIf_load_mid (by rfl) _ _ rfl _ _ rfl _ _ ?hS0n69 Tryz.underlying25 rfl (iD t (.slice sp n0 cap) (.slice sp9 (m + 1) cap9))) ?rest0n69
     case hS0n69 =>
      intro w' hSw
      exact aT (L := enL t (.slice sp n0 cap) (.slice sp9 (m + 1) cap9)) hSw.1
     try simp only [Act.put, zA, zB, zC, zD, zE, zF]
     refine' zk 1 rfl (v := _) (yieldsIf_load_mid (by rfl) _ _ rfl _ _ rfl _ _ ?hS1n70 Tryz.underlying39 rfl (eP HX.out)) ?rest1n70
     case hS1n70 =>
      intro w' hSw
      exact aT (L := sgL x (hk : Int) ((leaf : Int) + 1)) hSw.2
     try simp only [Act.put, zA, zB, zC, zD, zE, zF]
     refine zr 2 rfl (fun K hK => ?_)
     rw [if_pos (by rfl)]
     refine wp_store_row 25 _ _ rfl (w.heap.size + 1 + 1) (enA t (.slice sp n0 cap) (.slice sp9 (m + 1) cap9)) rfl rfl 25 _ HYA.out (aP _ _ _) rfl (cX _ _ _ _ _ _ _) ?_
     generalize hw : World.setRow _ _ _ = wB
     have HYB : Hid (wB.heap[w.heap.size + 1 + 1]? = some (.cells (enA t (.slice sp n0 cap) (.slice sp9 (m + 1) cap9)) 25 (0, 0))) := by rw [← hw]; exact setRow_heap _ _ _ _ _ _ HYA.out
     have HZB : Hid (wB.heap[w.heap.size + 1 + 1 + 1]? = some (.cells (sgA bI 0 0) 39 (0, 0))) := by rw [← hw]; exact (setRow_other _ _ _ _ (by omega)).trans HZA.out
     have HEB : Hid (wB.heap[w.heap.size]? = some (.cells (enA t (.slice sp n0 cap) (.slice sp9 (m + 1) cap9)) 25 (0, 0))) := by rw [← hw]; exact (setRow_other _ _ _ _ (by omega)).trans OI.out
     have HGB : Hid (wB.heap[ga]? = some (.cells (sgA x (hk : Int) ((leaf : Int) + 1)) 39 (0, 0))) := by rw [← hw]; exact (setRow_other _ _ _ _ (by omega)).trans OH.out
     have HBB : Hid (Below w.heap.size w wB) := by rw [← hw]; exact below_setRow HBA.out.drew (by omega) _
     have KZ : Hid (OwnG wB w5.heap.size (.slice sp9 (m + 1) cap9) (l.take k ++ X :: l.drop k)) := by rw [← hw]; exact ⟨World.ownsRow.kept LA.out.1 (cO _ _ _) (cW LA.out.1 HYD.out (by decide)), LA.out.2⟩
     have KT : Hid (SgT wB B X) := by rw [← hw]; exact KU.out.setRow HYD.out (by decide) _
     clear hw
     refine hK.out _ _ ⟨HEB.out, HGB.out⟩ (fun hHeld => ?_); clear hK K
     refine zr 3 rfl (fun K hK => ?_)
     rw [if_pos (by rfl)]
     refine wp_store_row 39 _ _ rfl (w.heap.size + 1 + 1 + 1) (sgA x (hk : Int) ((leaf : Int) + 1)) rfl rfl 39 _ HZB.out (aE HX.out) (by rw [aC aD, aC HX.out]) (aW _ _ _) ?_
     generalize hw : World.setRow _ _ _ = wC
     have HYC : Hid (wC.heap[w.heap.size + 1 + 1]? = some (.cells (enA t (.slice sp n0 cap) (.slice sp9 (m + 1) cap9)) 25 (0, 0))) := by rw [← hw]; exact (setRow_other _ _ _ _ (by omega)).trans HYB.out
     have HZC : Hid (wC.heap[w.heap.size + 1 + 1 + 1]? = some (.cells (sgA x (hk : Int) ((leaf : Int) + 1)) 39 (0, 0))) := by rw [← hw]; exact setRow_heap _ _ _ _ _ _ HZB.out
     have HEC : Hid (wC.heap[w.heap.size]? = some (.cells (enA t (.slice sp n0 cap) (.slice sp9 (m + 1) cap9)) 25 (0, 0))) := by rw [← hw]; exact (setRow_other _ _ _ _ (by omega)).trans HEB.out
     have HGC : Hid (wC.heap[ga]? = some (.cells (sgA x (hk : Int) ((leaf : Int) + 1)) 39 (0, 0))) := by rw [← hw]; exact (setRow_other _ _ _ _ (by omega)).trans HGB.out
     have HBC : Hid (Below w.heap.size w wC) := by rw [← hw]; exact below_setRow HBB.out (by omega) _
     have NW : Hid (OwnG wC w5.heap.size (.slice sp9 (m + 1) cap9) (l.take k ++ X :: l.drop k)) := by rw [← hw]; exact ⟨World.ownsRow.kept KZ.out.1 (cO _ _ _) (cW KZ.out.1 HZB.out (by decide)), KZ.out.2⟩
     have KS : Hid (SgT wC B X) := by rw [← hw]; exact KT.out.setRow HZB.out (by decide) _
     clear hw
     refine hK.out _ _ ⟨HEC.out, HGC.out⟩ (fun hHeld => ?_); clear hK K
     refine zw 4 rfl (v := ?_) ?_ ?_; rotate_left
     ·intro w' hSw; go_simp; try with_reducible rfl
     try simp only [Act.put, zA, zB, zC, zD, zE, zF]
     refine zd ?_ _
     go_wp2_with fail
     refine bodyPost_ret (aV (P := Tryz.prog) rfl _ _ (w.heap.size + 1 + 1) (w.heap.size + 1 + 1 + 1) 25 39 _ _ (0, 0) (0, 0) _ _ rfl HYC.out rfl HZC.out Tryz.underlying25 rfl (aP _ _ _) Tryz.underlying39 rfl (aE HX.out)) rfl ?_
     rw [HVE.out]
     refine ⟨HBC.out, .inr ⟨rfl, sp9, m + 1, cap9, l.take k ++ X :: l.drop k, rfl, ?_, ?_, ⟨NW.out.1, NW.out.2⟩ |> fun h : OwnG wC w5.heap.size (.slice sp9 (m + 1) cap9) (l.take k ++ X :: l.drop k) => h.base (by omega), ?_⟩⟩
     ·rw [List.length_append, List.length_cons, List.length_take, List.length_drop, HL.out.len]; omega
     ·show _ = nW (l.map pg) (jX x hk leaf d)
      rw [HIA.out, List.map_append, List.map_cons, List.map_take, List.map_drop, HXP.out]
     ·intro y hy
      rcases List.mem_append.1 hy with h | h
      ·exact .inl (List.mem_of_mem_take h)
      ·rcases List.mem_cons.1 h with rfl | h
       ·exact .inr (KS.out.base (by omega))
       ·exact .inl (List.mem_of_mem_drop h)
   ·have HVE : Hid (V = tF 5) := by
     have := GE (x := x) HVL.out HE0.out (by rw [hMD]; exact hhas)
     rw [HV.out] at this; exact this
    rw [hhas] at hfi
    clear hhas
    go_wp2_with (first
     | (refine wpList_store_row rfl 25 _ _ rfl (w.heap.size + 1 + 1) zEn rfl rfl 25 _ HF5.out.y (aP _ _ _) rfl (cX _ _ _ _ _ _ _) ?_; generalize hw8 : World.setRow w5 _ _ = w8; have HY8 : Hid (w8.heap[w.heap.size + 1 + 1]? = some (.cells zEn 25 (0, 0))) := (by rw [← hw8]; exact setRow_heap _ _ _ _ _ _ HF5.out.y); have HZ8 : Hid (w8.heap[w.heap.size + 1 + 1 + 1]? = some (.cells (sgA bI 0 0) 39 (0, 0))) := (by rw [← hw8]; exact (setRow_other _ _ _ _ (by omega)).trans HF5.out.z); have HB8 : Hid (Below w.heap.size w w8) := (by rw [← hw8]; exact below_setRow HF5.out.b (by omega) _); clear hw8)
     | (refine wpList_store_row rfl 39 _ _ rfl (w.heap.size + 1 + 1 + 1) (sgA bI 0 0) rfl rfl 39 _ HZ8.out (aE aD) rfl (aW _ _ _) ?_; generalize hw9 : World.setRow w8 _ _ = w9; have HZ9 : Hid (w9.heap[w.heap.size + 1 + 1 + 1]? = some (.cells (sgA bI 0 0) 39 (0, 0))) := (by rw [← hw9]; exact setRow_heap _ _ _ _ _ _ HZ8.out); have HY9 : Hid (w9.heap[w.heap.size + 1 + 1]? = some (.cells zEn 25 (0, 0))) := (by rw [← hw9]; exact (setRow_other _ _ _ _ (by omega)).trans HY8.out); have HB9 : Hid (Below w.heap.size w w9) := (by rw [← hw9]; exact below_setRow HB8.out (by omega) _); clear hw9))
    exact bodyPost_ret (aV (P := Tryz.prog) rfl _ _ (w.heap.size + 1 + 1) (w.heap.size + 1 + 1 + 1) 25 39 _ _ (0, 0) (0, 0) _ _ rfl HY9.out rfl HZ9.out Tryz.underlying25 rfl (aP _ _ _) Tryz.underlying39 rfl (aE aD)) rfl (by rw [HVE.out]; exact SgO.err (by decide) HB9.out)
theorem xG (t : ByteArray) (sp : Option Addr) (n0 cap : Nat) (b : List UInt8) (sq : Option Addr) (m cq : Nat) (l : List Sg) (x : List Int) (h n : Int) (w : World) (ht : t.size ≤ maxLen) (hp : BSrc w w.heap.size sp n0 cap b) (hpn : sp = none → cap = 0) (hl : SgsIn w w.heap.size sq m cq l) (hln : sq = none → cq = 0) (hx : H16 x) :
 Calls Tryz.prog 19 #[.agg (enA t (.slice sp n0 cap) (.slice sq m cq)), .agg (sgA x h n)] w (SgR (jV t b (l.map pg) x h n) w) :=
 (oR t sp n0 cap b sq m cq l x h n w ht hp hpn hl hln hx).mono fun _ _ hh => hh.R (by
  unfold jV
  split
  ·intro _; rfl
  ·rename_i hne
   intro e0; exact absurd e0 hne) hp hpn hl
end Go.Proofs.YtjeiiabpdoelpaaGreatDoor
