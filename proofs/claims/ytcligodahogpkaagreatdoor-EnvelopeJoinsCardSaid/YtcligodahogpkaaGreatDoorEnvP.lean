/-
  Envelopes: the walk of the reference's Sign.
-/
import Derived.Test.YtcligodahogpkaaGreatDoorZip
import Derived.Test.YtcligodahogpkaaGreatDoorEnvM
import Derived.Test.YtcligodahogpkaaGreatDoorEnvO
set_option maxRecDepth 100000
set_option maxHeartbeats 8000000
namespace Go.Proofs.YtcligodahogpkaaGreatDoor
open Go.RowKit Go.Proofs.YtcligodahogpkaaGreatDoor.One
theorem OY (L : List Pg) (p : Pg) : OZ L (idP p) = pI L p := rfl
theorem HiP.of {L : List Pg} {p : Pg} {k : Nat} (hs : nJ L) (h : ∀ z, L[k]? = some z → dls (idP z) (idP p) = false) : HiP L p k := by
 cases hx : L[k]? with
 | none =>
  intro m y hm hy
  have h1 := List.getElem?_eq_none_iff.1 hx
  have h2 := (List.getElem?_eq_some_iff.1 hy).1
  omega
 | some x => exact HiP.dn hs hx (h x hx)
def SgO (V : SgV) (p : Value) (l : List Sg) (w : World) (e : Ending) (w' : World) : Prop :=
 Below w.heap.size w w' ∧ ((V.E ≠ 0 ∧ V = uJ V.E ∧ e = .returned (.tuple #[.agg zEn, .agg (sgA bO 0 0), .int .i64 V.E])) ∨ (V.E = 0 ∧ ∃ sp n cap l', e = .returned (.tuple #[.agg (enA V.t p (.slice sp n cap)), .agg (sgA V.x V.h V.n), .int .i64 0]) ∧ l'.length = n ∧ l'.map pg = V.L ∧ OwnG w' w.heap.size (.slice sp n cap) l' ∧ ∀ y ∈ l', y ∈ l ∨ SgT w' w.heap.size y))
theorem SgO.err {w w' : World} {E : Int} {p : Value} {l : List Sg} (hE : E ≠ 0) (hb : Below w.heap.size w w') : SgO (uJ E) p l w (.returned (.tuple #[.agg zEn, .agg (sgA bO 0 0), .int .i64 E])) w' := ⟨hb, .inl ⟨hE, rfl, rfl⟩⟩
theorem yO (t : ByteArray) (sp : Option Addr) (n0 cap : Nat) (b : List UInt8) (sq : Option Addr) (m cq : Nat) (l : List Sg) (x : List Int) (h n : Int) (w : World) (ht : t.size ≤ maxLen) (hp : BSrc w w.heap.size sp n0 cap b) (hpn : sp = none → cap = 0) (hl : SgsIn w w.heap.size sq m cq l) (hln : sq = none → cq = 0) (hx : H16 x) :
 Calls Tryz.prog 22 #[.agg (enA t (.slice sp n0 cap) (.slice sq m cq)), .agg (sgA x h n)] w (SgO (nR t b (l.map pg) x h n) (.slice sp n0 cap) l w) := by
 have HP := zh hp; have HPN := zh hpn; have HL := zh hl; have HX := zh hx; have HLNN := zh hln
 clear hp hpn hl hx hln
 obtain ⟨V, hV⟩ : ∃ V, nR t b (l.map pg) x h n = V := ⟨_, rfl⟩
 rw [hV]
 have HV := zh hV
 clear hV
 have HMO := zh (gG t b)
 obtain ⟨x1, h1, n1, l1, E, N, M, cl, pl, hS⟩ := pY x h n (eI t b) HX.out HMO.out
 have HS := zh hS
 have HX1 := zh hS.hx
 clear hS
 have HT := zh (SnF.new w (enA t (.slice sp n0 cap) (.slice sq m cq)) (sgA x h n))
 have HIE := zh (aF t (.slice sp n0 cap) (.slice sq m cq))
 go_enter Tryz.func22, Tryz.ntmps22
 go_upto_region 1 with fail
 generalize hw0 : World.alloc (World.alloc (World.alloc (World.alloc w _) _) _) _ = w0
 have HF0 : Hid (SnF w (enA t (.slice sp n0 cap) (.slice sq m cq)) (sgA x h n) w0) := by rw [← hw0]; exact HT.out
 clear hw0 HT
 have HUP : Hid (∀ w', Below w.heap.size w w' → BSrc w' w'.heap.size sp n0 cap b ∧ SgsIn w' w'.heap.size sq m cq l) := fun w' hb => ⟨(HP.out.below hb (Nat.le_refl _)).more hb.size, HL.out.up hb (Nat.le_refl _)⟩
 have HCV := zh (kL t sp n0 cap b sq m cq l w0 ht (HUP.out _ HF0.out.b).1 (HUP.out _ HF0.out.b).2)
 go_wp2_with (refine wpList_load_row rfl 25 _ rfl w.heap.size rfl 25 _ (0, 0) _ HF0.out.e Tryz.underlying25 rfl HIE.out ?_)
 refine HCV.out.mono ?_
 rintro e w1 ⟨rfl, hb⟩
 have HF1 := zh (HF0.out.below hb)
 clear hb HCV HF0
 have hbe := kC
 have hbs := fG
 cases hvl : fL t b (l.map pg)
 ·have HVE : Hid (V = uJ 1) := HV.out.symm.trans (JA hvl)
  clear hvl
  go_wp2_with (first
   | (refine wpList_store_row rfl 25 _ _ rfl (w.heap.size + 1 + 1) zEn rfl rfl 25 _ HF1.out.y (aF _ _ _) rfl (bX _ _ _ _ _ _ _) ?_; generalize hw8 : World.setRow w1 _ _ = w8; have HY8 : Hid (w8.heap[w.heap.size + 1 + 1]? = some (.cells zEn 25 (0, 0))) := (by rw [← hw8]; exact setRow_heap _ _ _ _ _ _ HF1.out.y); have HZ8 : Hid (w8.heap[w.heap.size + 1 + 1 + 1]? = some (.cells (sgA bO 0 0) 64 (0, 0))) := (by rw [← hw8]; exact (setRow_other _ _ _ _ (by omega)).trans HF1.out.z); have HB8 : Hid (Below w.heap.size w w8) := (by rw [← hw8]; exact below_setRow HF1.out.b (by omega) _); clear hw8)
   | (refine wpList_store_row rfl 64 _ _ rfl (w.heap.size + 1 + 1 + 1) (sgA bO 0 0) rfl rfl 64 _ HZ8.out (aG aD) rfl (bC _ _ _) ?_; generalize hw9 : World.setRow w8 _ _ = w9; have HZ9 : Hid (w9.heap[w.heap.size + 1 + 1 + 1]? = some (.cells (sgA bO 0 0) 64 (0, 0))) := (by rw [← hw9]; exact setRow_heap _ _ _ _ _ _ HZ8.out); have HY9 : Hid (w9.heap[w.heap.size + 1 + 1]? = some (.cells zEn 25 (0, 0))) := (by rw [← hw9]; exact (setRow_other _ _ _ _ (by omega)).trans HY8.out); have HB9 : Hid (Below w.heap.size w w9) := (by rw [← hw9]; exact below_setRow HB8.out (by omega) _); clear hw9))
  exact bodyPost_ret (aY (P := Tryz.prog) rfl _ _ (w.heap.size + 1 + 1) (w.heap.size + 1 + 1 + 1) 25 64 _ _ (0, 0) (0, 0) _ _ rfl HY9.out rfl HZ9.out Tryz.underlying25 rfl (aF _ _ _) Tryz.underlying64 rfl (aG aD)) rfl (by rw [HVE.out]; exact SgO.err (by decide) HB9.out)
 ·have HVL := zh hvl
  have h8 : m ≤ 8 := by have := qX hvl; rw [List.length_map, HL.out.len] at this; exact this
  have NM := zh (lS (qW hvl))
  clear hvl
  go_wp2_with fail
  obtain ⟨B, hBe⟩ : ∃ B, B = w1.heap.size := ⟨_, rfl⟩
  have uE : Hid (Blks B w1 w1 []) := Blks.start (Below.refl _ _) (Nat.le_of_eq hBe)
  have HLT : Hid (w.heap.size < B ∧ w.heap.size + 1 < B) := ⟨by have := HF1.out.k; omega, by have := HF1.out.k; omega⟩
  have QM : Hid (w.heap.size + 4 ≤ B) := by show _ ≤ _; have := HF1.out.k; omega
  have EI : Hid (∀ w', Below B w1 w' → Below w.heap.size w w') := fun w' hb => HF1.out.b.trans (hb.mono (Nat.le_of_lt HLT.out.1))
  have HCM : Hid (∀ w', Below B w1 w' → Calls Tryz.prog 52 #[.string t, .slice sp n0 cap] w' fun e w'' => e = .returned (.agg (dgA (eI t b))) ∧ Below w'.heap.size w' w'') := fun w' hb => mQ t sp n0 cap b w' (HUP.out _ (EI.out _ hb)).1
  have HCS : Hid (∀ w', Below B w1 w' → Calls Tryz.prog 51 #[.agg (sgL x h n).toArray, .agg (dgA (eI t b))] w' fun e w'' => ∃ sp1 c1 sp2 c2, e = .returned (.tuple #[.agg (sgA x1 h1 n1), .agg (siA l1 (.slice sp1 N c1) (.slice sp2 M c2)), .int .i64 E]) ∧ OwnHv w'' w'.heap.size (.slice sp1 N c1) cl ∧ OwnHv w'' w'.heap.size (.slice sp2 M c2) pl ∧ Below w'.heap.size w' w'') := fun w' hb => HS.out.b w'
  clear hBe hbe hbs
  generalize hMD : eI t b = d at *
  go_cut [7, 8, 9] (fun s7 s8 s9 wx => ∃ (ga gb : Nat) (sp1 : Option Addr) (c1 : Nat) (sp2 : Option Addr) (c2 : Nat), s7 = .pointer (some ⟨ga, 0, none⟩) ∧ s8 = .pointer (some ⟨gb, 0, none⟩) ∧ s9 = .int .i64 E ∧ Hid (wx.heap[ga]? = some (.cells (sgA x1 h1 n1) 64 (0, 0)) ∧ wx.heap[gb]? = some (.cells (siA l1 (.slice sp1 N c1) (.slice sp2 M c2)) 60 (0, 0)) ∧ OwnHv wx B (.slice sp1 N c1) cl ∧ OwnHv wx B (.slice sp2 M c2) pl ∧ B ≤ ga ∧ B ≤ gb ∧ Below B w1 wx))
  case first =>
   clear HV HUP HP HPN HL HLNN HVL h8 NM HMO hMD EI HIE ht HS
   as_aux_lemma =>
    refine wp_region_held_drew (S := fun w' => Below B w1 w') (by kernel_rfl) uE.out.b.drew (fun hHeld => ?_)
    refine' zk 0 rfl (v := _) (yieldsIf_load_mid (by rfl) _ _ rfl _ _ rfl _ _ ?hS0n1 Tryz.underlying64 rfl (fX HX.out)) ?rest0n1
    case hS0n1 =>
     intro w' hSw
     exact aO (L := sgL x h n) ((hSw.block _ HLT.out.2).trans HF1.out.s)
    try simp only [Act.put, zA, zB, zC, zD, zE, zF]
    refine zv 1 rfl ?_
    refine zx 2 rfl (v := ?_) ?_ ?_; rotate_left
    ·intro w' hSw; have c0 := vS ((hSw.block _ HLT.out.1).trans HF1.out.e); go_simp; try with_reducible rfl
    refine zv 3 rfl ?_
    refine zx 4 rfl (v := ?_) ?_ ?_; rotate_left
    ·intro w' hSw; have c0 := mH ((hSw.block _ HLT.out.1).trans HF1.out.e); go_simp; try with_reducible rfl
    refine wpAnyH_ready (rs := [5, 11, 12]) (by kernel_rfl) (by simp) (AllReadyH.cons (o := _) rfl (fun K hK => ?_) (AllReadyH.cons (o := _) rfl (fun K hK => ?_) (AllReadyH.cons (o := _) rfl (fun K hK => ?_) AllReadyH.nil)))
    go_simp
    with_reducible refine (HCM.out _ (uE.out.drew).b).mono ?_
    rintro e v1 ⟨rfl, hb⟩
    have cV := zh (uE.out.call ((Below.refl _ _).drew.trans hb))
    clear hb
    go_wp2_with fail
    refine hK.out _ _ cV.out.b fun _ => ?_; clear hK K
    refine wpAnyH_ready (rs := [6, 11, 12]) (by kernel_rfl) (by simp) (AllReadyH.cons (o := _) rfl (fun K hK => ?_) (AllReadyH.cons (o := _) rfl (fun K hK => ?_) (AllReadyH.cons (o := _) rfl (fun K hK => ?_) AllReadyH.nil)))
    go_simp
    with_reducible refine (HCS.out _ (cV.out).b).mono ?_
    rintro e v2 ⟨sp1, c1, sp2, c2, rfl, hoc, hop, hb⟩
    have bD := zh (cV.out.call hb)
    have EQ := zh (hoc.base (cV.out.k))
    have EO := zh (hop.base (cV.out.k))
    clear hb
    go_wp2_with fail
    refine hK.out _ _ bD.out.b fun _ => ?_; clear hK K
    refine zv 7 rfl ?_
    refine zv 8 rfl ?_
    refine zv 9 rfl ?_
    refine zv 10 rfl ?_
    refine zs 11 12 rfl (fun K hK => ?_) rfl (fun K hK => ?_)
    obtain ⟨ga, v3, hg, hw, aU, HEv3⟩ := bD.out.allocd (.cells (sgA bO 0 0) 64 (0, 0))
    go_simp
    try rw [hg]
    generalize hq : World.alloc v2 _ = q
    obtain rfl : v3 = q := hw.symm.trans hq
    clear hg hw hq
    have gM := zh (EQ.out.below HEv3.out)
    have gL := zh (EO.out.below HEv3.out)
    refine hK.out _ _ aU.out.b fun _ => ?_; clear hK K
    refine zr 12 rfl (fun K hK => ?_)
    obtain ⟨gb, v4, hg, hw, aN, HEv4⟩ := aU.out.allocd (.cells (siA 0 aK aK) 60 (0, 0))
    go_simp
    try rw [hg]
    generalize hq : World.alloc v3 _ = q
    obtain rfl : v4 = q := hw.symm.trans hq
    clear hg hw hq
    have dB := zh (gM.out.below HEv4.out)
    have dA := zh (gL.out.below HEv4.out)
    refine hK.out _ _ aN.out.b fun _ => ?_; clear hK K
    refine zr 13 rfl (fun K hK => ?_)
    rw [if_pos (by rfl)]
    refine wp_store_row 64 _ _ rfl ga (sgA x1 h1 n1) rfl rfl 64 _ (aN.out.at 1 rfl) (aG HX1.out) (by rw [aC aD, aC HX1.out]) (bC _ _ _) ?_
    generalize hw : World.setRow v4 _ _ = v5
    have aL := zh (aN.out.set 1 rfl (sgA x1 h1 n1))
    rw [hw] at aL
    have bN := zh (dB.out.setRow (aN.out.at 1 rfl) (by decide) (sgA x1 h1 n1))
    rw [hw] at bN
    have bL := zh (dA.out.setRow (aN.out.at 1 rfl) (by decide) (sgA x1 h1 n1))
    rw [hw] at bL
    clear hw
    refine hK.out _ _ aL.out.b fun _ => ?_; clear hK K
    refine zr 14 rfl (fun K hK => ?_)
    rw [if_pos (by rfl)]
    refine wp_store_row 60 _ _ rfl gb (siA l1 (.slice sp1 N c1) (.slice sp2 M c2)) rfl rfl 60 _ (aL.out.at 0 rfl) (aP _ _ _) rfl (bU _ _ _ _ _ _ _) ?_
    generalize hw : World.setRow v5 _ _ = v6
    have aM := zh (aL.out.set 0 rfl (siA l1 (.slice sp1 N c1) (.slice sp2 M c2)))
    rw [hw] at aM
    have bM := zh (bN.out.setRow (aL.out.at 0 rfl) (by decide) (siA l1 (.slice sp1 N c1) (.slice sp2 M c2)))
    rw [hw] at bM
    have bK := zh (bL.out.setRow (aL.out.at 0 rfl) (by decide) (siA l1 (.slice sp1 N c1) (.slice sp2 M c2)))
    rw [hw] at bK
    clear hw
    refine hK.out _ _ aM.out.b fun _ => ?_; clear hK K
    refine zv 15 rfl ?_
    refine zd ?_ _
    go_wp2_with fail
    go_meet
    exact ⟨ga, gb, sp1, c1, sp2, c2, rfl, rfl, rfl, aM.out.at 1 rfl, aM.out.at 0 rfl, bM.out, bK.out, (aM.out.lt 1 rfl).1, (aM.out.lt 0 rfl).1, aM.out.b⟩
    obtain ⟨gb, v3, hg, hw, aU, HEv3⟩ := bD.out.allocd (.cells (siA 0 aK aK) 60 (0, 0))
    go_simp
    try rw [hg]
    generalize hq : World.alloc v2 _ = q
    obtain rfl : v3 = q := hw.symm.trans hq
    clear hg hw hq
    have gM := zh (EQ.out.below HEv3.out)
    have gL := zh (EO.out.below HEv3.out)
    refine hK.out _ _ aU.out.b fun _ => ?_; clear hK K
    refine zr 11 rfl (fun K hK => ?_)
    obtain ⟨ga, v4, hg, hw, aN, HEv4⟩ := aU.out.allocd (.cells (sgA bO 0 0) 64 (0, 0))
    go_simp
    try rw [hg]
    generalize hq : World.alloc v3 _ = q
    obtain rfl : v4 = q := hw.symm.trans hq
    clear hg hw hq
    have dB := zh (gM.out.below HEv4.out)
    have dA := zh (gL.out.below HEv4.out)
    refine hK.out _ _ aN.out.b fun _ => ?_; clear hK K
    refine zr 13 rfl (fun K hK => ?_)
    rw [if_pos (by rfl)]
    refine wp_store_row 64 _ _ rfl ga (sgA x1 h1 n1) rfl rfl 64 _ (aN.out.at 0 rfl) (aG HX1.out) (by rw [aC aD, aC HX1.out]) (bC _ _ _) ?_
    generalize hw : World.setRow v4 _ _ = v5
    have aL := zh (aN.out.set 0 rfl (sgA x1 h1 n1))
    rw [hw] at aL
    have bN := zh (dB.out.setRow (aN.out.at 0 rfl) (by decide) (sgA x1 h1 n1))
    rw [hw] at bN
    have bL := zh (dA.out.setRow (aN.out.at 0 rfl) (by decide) (sgA x1 h1 n1))
    rw [hw] at bL
    clear hw
    refine hK.out _ _ aL.out.b fun _ => ?_; clear hK K
    refine zr 14 rfl (fun K hK => ?_)
    rw [if_pos (by rfl)]
    refine wp_store_row 60 _ _ rfl gb (siA l1 (.slice sp1 N c1) (.slice sp2 M c2)) rfl rfl 60 _ (aL.out.at 1 rfl) (aP _ _ _) rfl (bU _ _ _ _ _ _ _) ?_
    generalize hw : World.setRow v5 _ _ = v6
    have aM := zh (aL.out.set 1 rfl (siA l1 (.slice sp1 N c1) (.slice sp2 M c2)))
    rw [hw] at aM
    have bM := zh (bN.out.setRow (aL.out.at 1 rfl) (by decide) (siA l1 (.slice sp1 N c1) (.slice sp2 M c2)))
    rw [hw] at bM
    have bK := zh (bL.out.setRow (aL.out.at 1 rfl) (by decide) (siA l1 (.slice sp1 N c1) (.slice sp2 M c2)))
    rw [hw] at bK
    clear hw
    refine hK.out _ _ aM.out.b fun _ => ?_; clear hK K
    refine zv 15 rfl ?_
    refine zd ?_ _
    go_wp2_with fail
    go_meet
    exact ⟨ga, gb, sp1, c1, sp2, c2, rfl, rfl, rfl, aM.out.at 0 rfl, aM.out.at 1 rfl, bM.out, bK.out, (aM.out.lt 0 rfl).1, (aM.out.lt 1 rfl).1, aM.out.b⟩
    obtain ⟨ga, v2, hg, hw, bD, jD⟩ := cV.out.allocd (.cells (sgA bO 0 0) 64 (0, 0))
    go_simp
    try rw [hg]
    generalize hq : World.alloc v1 _ = q
    obtain rfl : v2 = q := hw.symm.trans hq
    clear hg hw hq
    refine hK.out _ _ bD.out.b fun _ => ?_; clear hK K
    refine zs 6 12 rfl (fun K hK => ?_) rfl (fun K hK => ?_)
    go_simp
    with_reducible refine (HCS.out _ (bD.out).b).mono ?_
    rintro e v3 ⟨sp1, c1, sp2, c2, rfl, hoc, hop, hb⟩
    have aU := zh (bD.out.call hb)
    have gM := zh (hoc.base (bD.out.k))
    have gL := zh (hop.base (bD.out.k))
    clear hb
    go_wp2_with fail
    refine hK.out _ _ aU.out.b fun _ => ?_; clear hK K
    refine zv 7 rfl ?_
    refine zv 8 rfl ?_
    refine zv 9 rfl ?_
    refine zv 10 rfl ?_
    refine zr 12 rfl (fun K hK => ?_)
    obtain ⟨gb, v4, hg, hw, aN, HEv4⟩ := aU.out.allocd (.cells (siA 0 aK aK) 60 (0, 0))
    go_simp
    try rw [hg]
    generalize hq : World.alloc v3 _ = q
    obtain rfl : v4 = q := hw.symm.trans hq
    clear hg hw hq
    have dB := zh (gM.out.below HEv4.out)
    have dA := zh (gL.out.below HEv4.out)
    refine hK.out _ _ aN.out.b fun _ => ?_; clear hK K
    refine zr 13 rfl (fun K hK => ?_)
    rw [if_pos (by rfl)]
    refine wp_store_row 64 _ _ rfl ga (sgA x1 h1 n1) rfl rfl 64 _ (aN.out.at 1 rfl) (aG HX1.out) (by rw [aC aD, aC HX1.out]) (bC _ _ _) ?_
    generalize hw : World.setRow v4 _ _ = v5
    have aL := zh (aN.out.set 1 rfl (sgA x1 h1 n1))
    rw [hw] at aL
    have bN := zh (dB.out.setRow (aN.out.at 1 rfl) (by decide) (sgA x1 h1 n1))
    rw [hw] at bN
    have bL := zh (dA.out.setRow (aN.out.at 1 rfl) (by decide) (sgA x1 h1 n1))
    rw [hw] at bL
    clear hw
    refine hK.out _ _ aL.out.b fun _ => ?_; clear hK K
    refine zr 14 rfl (fun K hK => ?_)
    rw [if_pos (by rfl)]
    refine wp_store_row 60 _ _ rfl gb (siA l1 (.slice sp1 N c1) (.slice sp2 M c2)) rfl rfl 60 _ (aL.out.at 0 rfl) (aP _ _ _) rfl (bU _ _ _ _ _ _ _) ?_
    generalize hw : World.setRow v5 _ _ = v6
    have aM := zh (aL.out.set 0 rfl (siA l1 (.slice sp1 N c1) (.slice sp2 M c2)))
    rw [hw] at aM
    have bM := zh (bN.out.setRow (aL.out.at 0 rfl) (by decide) (siA l1 (.slice sp1 N c1) (.slice sp2 M c2)))
    rw [hw] at bM
    have bK := zh (bL.out.setRow (aL.out.at 0 rfl) (by decide) (siA l1 (.slice sp1 N c1) (.slice sp2 M c2)))
    rw [hw] at bK
    clear hw
    refine hK.out _ _ aM.out.b fun _ => ?_; clear hK K
    refine zv 15 rfl ?_
    refine zd ?_ _
    go_wp2_with fail
    go_meet
    exact ⟨ga, gb, sp1, c1, sp2, c2, rfl, rfl, rfl, aM.out.at 1 rfl, aM.out.at 0 rfl, bM.out, bK.out, (aM.out.lt 1 rfl).1, (aM.out.lt 0 rfl).1, aM.out.b⟩
    obtain ⟨gb, v3, hg, hw, aU, HEv3⟩ := bD.out.allocd (.cells (siA 0 aK aK) 60 (0, 0))
    go_simp
    try rw [hg]
    generalize hq : World.alloc v2 _ = q
    obtain rfl : v3 = q := hw.symm.trans hq
    clear hg hw hq
    refine hK.out _ _ aU.out.b fun _ => ?_; clear hK K
    refine zr 6 rfl (fun K hK => ?_)
    go_simp
    with_reducible refine (HCS.out _ (aU.out).b).mono ?_
    rintro e v4 ⟨sp1, c1, sp2, c2, rfl, hoc, hop, hb⟩
    have aN := zh (aU.out.call hb)
    have dB := zh (hoc.base (aU.out.k))
    have dA := zh (hop.base (aU.out.k))
    clear hb
    go_wp2_with fail
    refine hK.out _ _ aN.out.b fun _ => ?_; clear hK K
    refine zv 7 rfl ?_
    refine zv 8 rfl ?_
    refine zv 9 rfl ?_
    refine zv 10 rfl ?_
    refine zr 13 rfl (fun K hK => ?_)
    rw [if_pos (by rfl)]
    refine wp_store_row 64 _ _ rfl ga (sgA x1 h1 n1) rfl rfl 64 _ (aN.out.at 1 rfl) (aG HX1.out) (by rw [aC aD, aC HX1.out]) (bC _ _ _) ?_
    generalize hw : World.setRow v4 _ _ = v5
    have aL := zh (aN.out.set 1 rfl (sgA x1 h1 n1))
    rw [hw] at aL
    have bN := zh (dB.out.setRow (aN.out.at 1 rfl) (by decide) (sgA x1 h1 n1))
    rw [hw] at bN
    have bL := zh (dA.out.setRow (aN.out.at 1 rfl) (by decide) (sgA x1 h1 n1))
    rw [hw] at bL
    clear hw
    refine hK.out _ _ aL.out.b fun _ => ?_; clear hK K
    refine zr 14 rfl (fun K hK => ?_)
    rw [if_pos (by rfl)]
    refine wp_store_row 60 _ _ rfl gb (siA l1 (.slice sp1 N c1) (.slice sp2 M c2)) rfl rfl 60 _ (aL.out.at 0 rfl) (aP _ _ _) rfl (bU _ _ _ _ _ _ _) ?_
    generalize hw : World.setRow v5 _ _ = v6
    have aM := zh (aL.out.set 0 rfl (siA l1 (.slice sp1 N c1) (.slice sp2 M c2)))
    rw [hw] at aM
    have bM := zh (bN.out.setRow (aL.out.at 0 rfl) (by decide) (siA l1 (.slice sp1 N c1) (.slice sp2 M c2)))
    rw [hw] at bM
    have bK := zh (bL.out.setRow (aL.out.at 0 rfl) (by decide) (siA l1 (.slice sp1 N c1) (.slice sp2 M c2)))
    rw [hw] at bK
    clear hw
    refine hK.out _ _ aM.out.b fun _ => ?_; clear hK K
    refine zv 15 rfl ?_
    refine zd ?_ _
    go_wp2_with fail
    go_meet
    exact ⟨ga, gb, sp1, c1, sp2, c2, rfl, rfl, rfl, aM.out.at 1 rfl, aM.out.at 0 rfl, bM.out, bK.out, (aM.out.lt 1 rfl).1, (aM.out.lt 0 rfl).1, aM.out.b⟩
    obtain ⟨gb, v2, hg, hw, bD, jD⟩ := cV.out.allocd (.cells (siA 0 aK aK) 60 (0, 0))
    go_simp
    try rw [hg]
    generalize hq : World.alloc v1 _ = q
    obtain rfl : v2 = q := hw.symm.trans hq
    clear hg hw hq
    refine hK.out _ _ bD.out.b fun _ => ?_; clear hK K
    refine zs 6 11 rfl (fun K hK => ?_) rfl (fun K hK => ?_)
    go_simp
    with_reducible refine (HCS.out _ (bD.out).b).mono ?_
    rintro e v3 ⟨sp1, c1, sp2, c2, rfl, hoc, hop, hb⟩
    have aU := zh (bD.out.call hb)
    have gM := zh (hoc.base (bD.out.k))
    have gL := zh (hop.base (bD.out.k))
    clear hb
    go_wp2_with fail
    refine hK.out _ _ aU.out.b fun _ => ?_; clear hK K
    refine zv 7 rfl ?_
    refine zv 8 rfl ?_
    refine zv 9 rfl ?_
    refine zv 10 rfl ?_
    refine zr 11 rfl (fun K hK => ?_)
    obtain ⟨ga, v4, hg, hw, aN, HEv4⟩ := aU.out.allocd (.cells (sgA bO 0 0) 64 (0, 0))
    go_simp
    try rw [hg]
    generalize hq : World.alloc v3 _ = q
    obtain rfl : v4 = q := hw.symm.trans hq
    clear hg hw hq
    have dB := zh (gM.out.below HEv4.out)
    have dA := zh (gL.out.below HEv4.out)
    refine hK.out _ _ aN.out.b fun _ => ?_; clear hK K
    refine zr 13 rfl (fun K hK => ?_)
    rw [if_pos (by rfl)]
    refine wp_store_row 64 _ _ rfl ga (sgA x1 h1 n1) rfl rfl 64 _ (aN.out.at 0 rfl) (aG HX1.out) (by rw [aC aD, aC HX1.out]) (bC _ _ _) ?_
    generalize hw : World.setRow v4 _ _ = v5
    have aL := zh (aN.out.set 0 rfl (sgA x1 h1 n1))
    rw [hw] at aL
    have bN := zh (dB.out.setRow (aN.out.at 0 rfl) (by decide) (sgA x1 h1 n1))
    rw [hw] at bN
    have bL := zh (dA.out.setRow (aN.out.at 0 rfl) (by decide) (sgA x1 h1 n1))
    rw [hw] at bL
    clear hw
    refine hK.out _ _ aL.out.b fun _ => ?_; clear hK K
    refine zr 14 rfl (fun K hK => ?_)
    rw [if_pos (by rfl)]
    refine wp_store_row 60 _ _ rfl gb (siA l1 (.slice sp1 N c1) (.slice sp2 M c2)) rfl rfl 60 _ (aL.out.at 1 rfl) (aP _ _ _) rfl (bU _ _ _ _ _ _ _) ?_
    generalize hw : World.setRow v5 _ _ = v6
    have aM := zh (aL.out.set 1 rfl (siA l1 (.slice sp1 N c1) (.slice sp2 M c2)))
    rw [hw] at aM
    have bM := zh (bN.out.setRow (aL.out.at 1 rfl) (by decide) (siA l1 (.slice sp1 N c1) (.slice sp2 M c2)))
    rw [hw] at bM
    have bK := zh (bL.out.setRow (aL.out.at 1 rfl) (by decide) (siA l1 (.slice sp1 N c1) (.slice sp2 M c2)))
    rw [hw] at bK
    clear hw
    refine hK.out _ _ aM.out.b fun _ => ?_; clear hK K
    refine zv 15 rfl ?_
    refine zd ?_ _
    go_wp2_with fail
    go_meet
    exact ⟨ga, gb, sp1, c1, sp2, c2, rfl, rfl, rfl, aM.out.at 0 rfl, aM.out.at 1 rfl, bM.out, bK.out, (aM.out.lt 0 rfl).1, (aM.out.lt 1 rfl).1, aM.out.b⟩
    obtain ⟨ga, v3, hg, hw, aU, HEv3⟩ := bD.out.allocd (.cells (sgA bO 0 0) 64 (0, 0))
    go_simp
    try rw [hg]
    generalize hq : World.alloc v2 _ = q
    obtain rfl : v3 = q := hw.symm.trans hq
    clear hg hw hq
    refine hK.out _ _ aU.out.b fun _ => ?_; clear hK K
    refine zr 6 rfl (fun K hK => ?_)
    go_simp
    with_reducible refine (HCS.out _ (aU.out).b).mono ?_
    rintro e v4 ⟨sp1, c1, sp2, c2, rfl, hoc, hop, hb⟩
    have aN := zh (aU.out.call hb)
    have dB := zh (hoc.base (aU.out.k))
    have dA := zh (hop.base (aU.out.k))
    clear hb
    go_wp2_with fail
    refine hK.out _ _ aN.out.b fun _ => ?_; clear hK K
    refine zv 7 rfl ?_
    refine zv 8 rfl ?_
    refine zv 9 rfl ?_
    refine zv 10 rfl ?_
    refine zr 13 rfl (fun K hK => ?_)
    rw [if_pos (by rfl)]
    refine wp_store_row 64 _ _ rfl ga (sgA x1 h1 n1) rfl rfl 64 _ (aN.out.at 0 rfl) (aG HX1.out) (by rw [aC aD, aC HX1.out]) (bC _ _ _) ?_
    generalize hw : World.setRow v4 _ _ = v5
    have aL := zh (aN.out.set 0 rfl (sgA x1 h1 n1))
    rw [hw] at aL
    have bN := zh (dB.out.setRow (aN.out.at 0 rfl) (by decide) (sgA x1 h1 n1))
    rw [hw] at bN
    have bL := zh (dA.out.setRow (aN.out.at 0 rfl) (by decide) (sgA x1 h1 n1))
    rw [hw] at bL
    clear hw
    refine hK.out _ _ aL.out.b fun _ => ?_; clear hK K
    refine zr 14 rfl (fun K hK => ?_)
    rw [if_pos (by rfl)]
    refine wp_store_row 60 _ _ rfl gb (siA l1 (.slice sp1 N c1) (.slice sp2 M c2)) rfl rfl 60 _ (aL.out.at 1 rfl) (aP _ _ _) rfl (bU _ _ _ _ _ _ _) ?_
    generalize hw : World.setRow v5 _ _ = v6
    have aM := zh (aL.out.set 1 rfl (siA l1 (.slice sp1 N c1) (.slice sp2 M c2)))
    rw [hw] at aM
    have bM := zh (bN.out.setRow (aL.out.at 1 rfl) (by decide) (siA l1 (.slice sp1 N c1) (.slice sp2 M c2)))
    rw [hw] at bM
    have bK := zh (bL.out.setRow (aL.out.at 1 rfl) (by decide) (siA l1 (.slice sp1 N c1) (.slice sp2 M c2)))
    rw [hw] at bK
    clear hw
    refine hK.out _ _ aM.out.b fun _ => ?_; clear hK K
    refine zv 15 rfl ?_
    refine zd ?_ _
    go_wp2_with fail
    go_meet
    exact ⟨ga, gb, sp1, c1, sp2, c2, rfl, rfl, rfl, aM.out.at 0 rfl, aM.out.at 1 rfl, bM.out, bK.out, (aM.out.lt 0 rfl).1, (aM.out.lt 1 rfl).1, aM.out.b⟩
    obtain ⟨ga, v1, hg, hw, cV, pK⟩ := uE.out.allocdD (.cells (sgA bO 0 0) 64 (0, 0))
    go_simp
    try rw [hg]
    generalize hq : World.drew (World.alloc w1 _) = q
    obtain rfl : v1 = q := hw.symm.trans hq
    clear hg hw hq
    refine hK.out _ _ cV.out.b fun _ => ?_; clear hK K
    refine zs 5 12 rfl (fun K hK => ?_) rfl (fun K hK => ?_)
    go_simp
    with_reducible refine (HCM.out _ (cV.out).b).mono ?_
    rintro e v2 ⟨rfl, hb⟩
    have bD := zh (cV.out.call hb)
    clear hb
    go_wp2_with fail
    refine hK.out _ _ bD.out.b fun _ => ?_; clear hK K
    refine zs 6 12 rfl (fun K hK => ?_) rfl (fun K hK => ?_)
    go_simp
    with_reducible refine (HCS.out _ (bD.out).b).mono ?_
    rintro e v3 ⟨sp1, c1, sp2, c2, rfl, hoc, hop, hb⟩
    have aU := zh (bD.out.call hb)
    have gM := zh (hoc.base (bD.out.k))
    have gL := zh (hop.base (bD.out.k))
    clear hb
    go_wp2_with fail
    refine hK.out _ _ aU.out.b fun _ => ?_; clear hK K
    refine zv 7 rfl ?_
    refine zv 8 rfl ?_
    refine zv 9 rfl ?_
    refine zv 10 rfl ?_
    refine zr 12 rfl (fun K hK => ?_)
    obtain ⟨gb, v4, hg, hw, aN, HEv4⟩ := aU.out.allocd (.cells (siA 0 aK aK) 60 (0, 0))
    go_simp
    try rw [hg]
    generalize hq : World.alloc v3 _ = q
    obtain rfl : v4 = q := hw.symm.trans hq
    clear hg hw hq
    have dB := zh (gM.out.below HEv4.out)
    have dA := zh (gL.out.below HEv4.out)
    refine hK.out _ _ aN.out.b fun _ => ?_; clear hK K
    refine zr 13 rfl (fun K hK => ?_)
    rw [if_pos (by rfl)]
    refine wp_store_row 64 _ _ rfl ga (sgA x1 h1 n1) rfl rfl 64 _ (aN.out.at 1 rfl) (aG HX1.out) (by rw [aC aD, aC HX1.out]) (bC _ _ _) ?_
    generalize hw : World.setRow v4 _ _ = v5
    have aL := zh (aN.out.set 1 rfl (sgA x1 h1 n1))
    rw [hw] at aL
    have bN := zh (dB.out.setRow (aN.out.at 1 rfl) (by decide) (sgA x1 h1 n1))
    rw [hw] at bN
    have bL := zh (dA.out.setRow (aN.out.at 1 rfl) (by decide) (sgA x1 h1 n1))
    rw [hw] at bL
    clear hw
    refine hK.out _ _ aL.out.b fun _ => ?_; clear hK K
    refine zr 14 rfl (fun K hK => ?_)
    rw [if_pos (by rfl)]
    refine wp_store_row 60 _ _ rfl gb (siA l1 (.slice sp1 N c1) (.slice sp2 M c2)) rfl rfl 60 _ (aL.out.at 0 rfl) (aP _ _ _) rfl (bU _ _ _ _ _ _ _) ?_
    generalize hw : World.setRow v5 _ _ = v6
    have aM := zh (aL.out.set 0 rfl (siA l1 (.slice sp1 N c1) (.slice sp2 M c2)))
    rw [hw] at aM
    have bM := zh (bN.out.setRow (aL.out.at 0 rfl) (by decide) (siA l1 (.slice sp1 N c1) (.slice sp2 M c2)))
    rw [hw] at bM
    have bK := zh (bL.out.setRow (aL.out.at 0 rfl) (by decide) (siA l1 (.slice sp1 N c1) (.slice sp2 M c2)))
    rw [hw] at bK
    clear hw
    refine hK.out _ _ aM.out.b fun _ => ?_; clear hK K
    refine zv 15 rfl ?_
    refine zd ?_ _
    go_wp2_with fail
    go_meet
    exact ⟨ga, gb, sp1, c1, sp2, c2, rfl, rfl, rfl, aM.out.at 1 rfl, aM.out.at 0 rfl, bM.out, bK.out, (aM.out.lt 1 rfl).1, (aM.out.lt 0 rfl).1, aM.out.b⟩
    obtain ⟨gb, v3, hg, hw, aU, HEv3⟩ := bD.out.allocd (.cells (siA 0 aK aK) 60 (0, 0))
    go_simp
    try rw [hg]
    generalize hq : World.alloc v2 _ = q
    obtain rfl : v3 = q := hw.symm.trans hq
    clear hg hw hq
    refine hK.out _ _ aU.out.b fun _ => ?_; clear hK K
    refine zr 6 rfl (fun K hK => ?_)
    go_simp
    with_reducible refine (HCS.out _ (aU.out).b).mono ?_
    rintro e v4 ⟨sp1, c1, sp2, c2, rfl, hoc, hop, hb⟩
    have aN := zh (aU.out.call hb)
    have dB := zh (hoc.base (aU.out.k))
    have dA := zh (hop.base (aU.out.k))
    clear hb
    go_wp2_with fail
    refine hK.out _ _ aN.out.b fun _ => ?_; clear hK K
    refine zv 7 rfl ?_
    refine zv 8 rfl ?_
    refine zv 9 rfl ?_
    refine zv 10 rfl ?_
    refine zr 13 rfl (fun K hK => ?_)
    rw [if_pos (by rfl)]
    refine wp_store_row 64 _ _ rfl ga (sgA x1 h1 n1) rfl rfl 64 _ (aN.out.at 1 rfl) (aG HX1.out) (by rw [aC aD, aC HX1.out]) (bC _ _ _) ?_
    generalize hw : World.setRow v4 _ _ = v5
    have aL := zh (aN.out.set 1 rfl (sgA x1 h1 n1))
    rw [hw] at aL
    have bN := zh (dB.out.setRow (aN.out.at 1 rfl) (by decide) (sgA x1 h1 n1))
    rw [hw] at bN
    have bL := zh (dA.out.setRow (aN.out.at 1 rfl) (by decide) (sgA x1 h1 n1))
    rw [hw] at bL
    clear hw
    refine hK.out _ _ aL.out.b fun _ => ?_; clear hK K
    refine zr 14 rfl (fun K hK => ?_)
    rw [if_pos (by rfl)]
    refine wp_store_row 60 _ _ rfl gb (siA l1 (.slice sp1 N c1) (.slice sp2 M c2)) rfl rfl 60 _ (aL.out.at 0 rfl) (aP _ _ _) rfl (bU _ _ _ _ _ _ _) ?_
    generalize hw : World.setRow v5 _ _ = v6
    have aM := zh (aL.out.set 0 rfl (siA l1 (.slice sp1 N c1) (.slice sp2 M c2)))
    rw [hw] at aM
    have bM := zh (bN.out.setRow (aL.out.at 0 rfl) (by decide) (siA l1 (.slice sp1 N c1) (.slice sp2 M c2)))
    rw [hw] at bM
    have bK := zh (bL.out.setRow (aL.out.at 0 rfl) (by decide) (siA l1 (.slice sp1 N c1) (.slice sp2 M c2)))
    rw [hw] at bK
    clear hw
    refine hK.out _ _ aM.out.b fun _ => ?_; clear hK K
    refine zv 15 rfl ?_
    refine zd ?_ _
    go_wp2_with fail
    go_meet
    exact ⟨ga, gb, sp1, c1, sp2, c2, rfl, rfl, rfl, aM.out.at 1 rfl, aM.out.at 0 rfl, bM.out, bK.out, (aM.out.lt 1 rfl).1, (aM.out.lt 0 rfl).1, aM.out.b⟩
    obtain ⟨gb, v2, hg, hw, bD, jD⟩ := cV.out.allocd (.cells (siA 0 aK aK) 60 (0, 0))
    go_simp
    try rw [hg]
    generalize hq : World.alloc v1 _ = q
    obtain rfl : v2 = q := hw.symm.trans hq
    clear hg hw hq
    refine hK.out _ _ bD.out.b fun _ => ?_; clear hK K
    refine zr 5 rfl (fun K hK => ?_)
    go_simp
    with_reducible refine (HCM.out _ (bD.out).b).mono ?_
    rintro e v3 ⟨rfl, hb⟩
    have aU := zh (bD.out.call hb)
    clear hb
    go_wp2_with fail
    refine hK.out _ _ aU.out.b fun _ => ?_; clear hK K
    refine zr 6 rfl (fun K hK => ?_)
    go_simp
    with_reducible refine (HCS.out _ (aU.out).b).mono ?_
    rintro e v4 ⟨sp1, c1, sp2, c2, rfl, hoc, hop, hb⟩
    have aN := zh (aU.out.call hb)
    have dB := zh (hoc.base (aU.out.k))
    have dA := zh (hop.base (aU.out.k))
    clear hb
    go_wp2_with fail
    refine hK.out _ _ aN.out.b fun _ => ?_; clear hK K
    refine zv 7 rfl ?_
    refine zv 8 rfl ?_
    refine zv 9 rfl ?_
    refine zv 10 rfl ?_
    refine zr 13 rfl (fun K hK => ?_)
    rw [if_pos (by rfl)]
    refine wp_store_row 64 _ _ rfl ga (sgA x1 h1 n1) rfl rfl 64 _ (aN.out.at 1 rfl) (aG HX1.out) (by rw [aC aD, aC HX1.out]) (bC _ _ _) ?_
    generalize hw : World.setRow v4 _ _ = v5
    have aL := zh (aN.out.set 1 rfl (sgA x1 h1 n1))
    rw [hw] at aL
    have bN := zh (dB.out.setRow (aN.out.at 1 rfl) (by decide) (sgA x1 h1 n1))
    rw [hw] at bN
    have bL := zh (dA.out.setRow (aN.out.at 1 rfl) (by decide) (sgA x1 h1 n1))
    rw [hw] at bL
    clear hw
    refine hK.out _ _ aL.out.b fun _ => ?_; clear hK K
    refine zr 14 rfl (fun K hK => ?_)
    rw [if_pos (by rfl)]
    refine wp_store_row 60 _ _ rfl gb (siA l1 (.slice sp1 N c1) (.slice sp2 M c2)) rfl rfl 60 _ (aL.out.at 0 rfl) (aP _ _ _) rfl (bU _ _ _ _ _ _ _) ?_
    generalize hw : World.setRow v5 _ _ = v6
    have aM := zh (aL.out.set 0 rfl (siA l1 (.slice sp1 N c1) (.slice sp2 M c2)))
    rw [hw] at aM
    have bM := zh (bN.out.setRow (aL.out.at 0 rfl) (by decide) (siA l1 (.slice sp1 N c1) (.slice sp2 M c2)))
    rw [hw] at bM
    have bK := zh (bL.out.setRow (aL.out.at 0 rfl) (by decide) (siA l1 (.slice sp1 N c1) (.slice sp2 M c2)))
    rw [hw] at bK
    clear hw
    refine hK.out _ _ aM.out.b fun _ => ?_; clear hK K
    refine zv 15 rfl ?_
    refine zd ?_ _
    go_wp2_with fail
    go_meet
    exact ⟨ga, gb, sp1, c1, sp2, c2, rfl, rfl, rfl, aM.out.at 1 rfl, aM.out.at 0 rfl, bM.out, bK.out, (aM.out.lt 1 rfl).1, (aM.out.lt 0 rfl).1, aM.out.b⟩
    obtain ⟨gb, v1, hg, hw, cV, pK⟩ := uE.out.allocdD (.cells (siA 0 aK aK) 60 (0, 0))
    go_simp
    try rw [hg]
    generalize hq : World.drew (World.alloc w1 _) = q
    obtain rfl : v1 = q := hw.symm.trans hq
    clear hg hw hq
    refine hK.out _ _ cV.out.b fun _ => ?_; clear hK K
    refine zs 5 11 rfl (fun K hK => ?_) rfl (fun K hK => ?_)
    go_simp
    with_reducible refine (HCM.out _ (cV.out).b).mono ?_
    rintro e v2 ⟨rfl, hb⟩
    have bD := zh (cV.out.call hb)
    clear hb
    go_wp2_with fail
    refine hK.out _ _ bD.out.b fun _ => ?_; clear hK K
    refine zs 6 11 rfl (fun K hK => ?_) rfl (fun K hK => ?_)
    go_simp
    with_reducible refine (HCS.out _ (bD.out).b).mono ?_
    rintro e v3 ⟨sp1, c1, sp2, c2, rfl, hoc, hop, hb⟩
    have aU := zh (bD.out.call hb)
    have gM := zh (hoc.base (bD.out.k))
    have gL := zh (hop.base (bD.out.k))
    clear hb
    go_wp2_with fail
    refine hK.out _ _ aU.out.b fun _ => ?_; clear hK K
    refine zv 7 rfl ?_
    refine zv 8 rfl ?_
    refine zv 9 rfl ?_
    refine zv 10 rfl ?_
    refine zr 11 rfl (fun K hK => ?_)
    obtain ⟨ga, v4, hg, hw, aN, HEv4⟩ := aU.out.allocd (.cells (sgA bO 0 0) 64 (0, 0))
    go_simp
    try rw [hg]
    generalize hq : World.alloc v3 _ = q
    obtain rfl : v4 = q := hw.symm.trans hq
    clear hg hw hq
    have dB := zh (gM.out.below HEv4.out)
    have dA := zh (gL.out.below HEv4.out)
    refine hK.out _ _ aN.out.b fun _ => ?_; clear hK K
    refine zr 13 rfl (fun K hK => ?_)
    rw [if_pos (by rfl)]
    refine wp_store_row 64 _ _ rfl ga (sgA x1 h1 n1) rfl rfl 64 _ (aN.out.at 0 rfl) (aG HX1.out) (by rw [aC aD, aC HX1.out]) (bC _ _ _) ?_
    generalize hw : World.setRow v4 _ _ = v5
    have aL := zh (aN.out.set 0 rfl (sgA x1 h1 n1))
    rw [hw] at aL
    have bN := zh (dB.out.setRow (aN.out.at 0 rfl) (by decide) (sgA x1 h1 n1))
    rw [hw] at bN
    have bL := zh (dA.out.setRow (aN.out.at 0 rfl) (by decide) (sgA x1 h1 n1))
    rw [hw] at bL
    clear hw
    refine hK.out _ _ aL.out.b fun _ => ?_; clear hK K
    refine zr 14 rfl (fun K hK => ?_)
    rw [if_pos (by rfl)]
    refine wp_store_row 60 _ _ rfl gb (siA l1 (.slice sp1 N c1) (.slice sp2 M c2)) rfl rfl 60 _ (aL.out.at 1 rfl) (aP _ _ _) rfl (bU _ _ _ _ _ _ _) ?_
    generalize hw : World.setRow v5 _ _ = v6
    have aM := zh (aL.out.set 1 rfl (siA l1 (.slice sp1 N c1) (.slice sp2 M c2)))
    rw [hw] at aM
    have bM := zh (bN.out.setRow (aL.out.at 1 rfl) (by decide) (siA l1 (.slice sp1 N c1) (.slice sp2 M c2)))
    rw [hw] at bM
    have bK := zh (bL.out.setRow (aL.out.at 1 rfl) (by decide) (siA l1 (.slice sp1 N c1) (.slice sp2 M c2)))
    rw [hw] at bK
    clear hw
    refine hK.out _ _ aM.out.b fun _ => ?_; clear hK K
    refine zv 15 rfl ?_
    refine zd ?_ _
    go_wp2_with fail
    go_meet
    exact ⟨ga, gb, sp1, c1, sp2, c2, rfl, rfl, rfl, aM.out.at 0 rfl, aM.out.at 1 rfl, bM.out, bK.out, (aM.out.lt 0 rfl).1, (aM.out.lt 1 rfl).1, aM.out.b⟩
    obtain ⟨ga, v3, hg, hw, aU, HEv3⟩ := bD.out.allocd (.cells (sgA bO 0 0) 64 (0, 0))
    go_simp
    try rw [hg]
    generalize hq : World.alloc v2 _ = q
    obtain rfl : v3 = q := hw.symm.trans hq
    clear hg hw hq
    refine hK.out _ _ aU.out.b fun _ => ?_; clear hK K
    refine zr 6 rfl (fun K hK => ?_)
    go_simp
    with_reducible refine (HCS.out _ (aU.out).b).mono ?_
    rintro e v4 ⟨sp1, c1, sp2, c2, rfl, hoc, hop, hb⟩
    have aN := zh (aU.out.call hb)
    have dB := zh (hoc.base (aU.out.k))
    have dA := zh (hop.base (aU.out.k))
    clear hb
    go_wp2_with fail
    refine hK.out _ _ aN.out.b fun _ => ?_; clear hK K
    refine zv 7 rfl ?_
    refine zv 8 rfl ?_
    refine zv 9 rfl ?_
    refine zv 10 rfl ?_
    refine zr 13 rfl (fun K hK => ?_)
    rw [if_pos (by rfl)]
    refine wp_store_row 64 _ _ rfl ga (sgA x1 h1 n1) rfl rfl 64 _ (aN.out.at 0 rfl) (aG HX1.out) (by rw [aC aD, aC HX1.out]) (bC _ _ _) ?_
    generalize hw : World.setRow v4 _ _ = v5
    have aL := zh (aN.out.set 0 rfl (sgA x1 h1 n1))
    rw [hw] at aL
    have bN := zh (dB.out.setRow (aN.out.at 0 rfl) (by decide) (sgA x1 h1 n1))
    rw [hw] at bN
    have bL := zh (dA.out.setRow (aN.out.at 0 rfl) (by decide) (sgA x1 h1 n1))
    rw [hw] at bL
    clear hw
    refine hK.out _ _ aL.out.b fun _ => ?_; clear hK K
    refine zr 14 rfl (fun K hK => ?_)
    rw [if_pos (by rfl)]
    refine wp_store_row 60 _ _ rfl gb (siA l1 (.slice sp1 N c1) (.slice sp2 M c2)) rfl rfl 60 _ (aL.out.at 1 rfl) (aP _ _ _) rfl (bU _ _ _ _ _ _ _) ?_
    generalize hw : World.setRow v5 _ _ = v6
    have aM := zh (aL.out.set 1 rfl (siA l1 (.slice sp1 N c1) (.slice sp2 M c2)))
    rw [hw] at aM
    have bM := zh (bN.out.setRow (aL.out.at 1 rfl) (by decide) (siA l1 (.slice sp1 N c1) (.slice sp2 M c2)))
    rw [hw] at bM
    have bK := zh (bL.out.setRow (aL.out.at 1 rfl) (by decide) (siA l1 (.slice sp1 N c1) (.slice sp2 M c2)))
    rw [hw] at bK
    clear hw
    refine hK.out _ _ aM.out.b fun _ => ?_; clear hK K
    refine zv 15 rfl ?_
    refine zd ?_ _
    go_wp2_with fail
    go_meet
    exact ⟨ga, gb, sp1, c1, sp2, c2, rfl, rfl, rfl, aM.out.at 0 rfl, aM.out.at 1 rfl, bM.out, bK.out, (aM.out.lt 0 rfl).1, (aM.out.lt 1 rfl).1, aM.out.b⟩
    obtain ⟨ga, v2, hg, hw, bD, jD⟩ := cV.out.allocd (.cells (sgA bO 0 0) 64 (0, 0))
    go_simp
    try rw [hg]
    generalize hq : World.alloc v1 _ = q
    obtain rfl : v2 = q := hw.symm.trans hq
    clear hg hw hq
    refine hK.out _ _ bD.out.b fun _ => ?_; clear hK K
    refine zr 5 rfl (fun K hK => ?_)
    go_simp
    with_reducible refine (HCM.out _ (bD.out).b).mono ?_
    rintro e v3 ⟨rfl, hb⟩
    have aU := zh (bD.out.call hb)
    clear hb
    go_wp2_with fail
    refine hK.out _ _ aU.out.b fun _ => ?_; clear hK K
    refine zr 6 rfl (fun K hK => ?_)
    go_simp
    with_reducible refine (HCS.out _ (aU.out).b).mono ?_
    rintro e v4 ⟨sp1, c1, sp2, c2, rfl, hoc, hop, hb⟩
    have aN := zh (aU.out.call hb)
    have dB := zh (hoc.base (aU.out.k))
    have dA := zh (hop.base (aU.out.k))
    clear hb
    go_wp2_with fail
    refine hK.out _ _ aN.out.b fun _ => ?_; clear hK K
    refine zv 7 rfl ?_
    refine zv 8 rfl ?_
    refine zv 9 rfl ?_
    refine zv 10 rfl ?_
    refine zr 13 rfl (fun K hK => ?_)
    rw [if_pos (by rfl)]
    refine wp_store_row 64 _ _ rfl ga (sgA x1 h1 n1) rfl rfl 64 _ (aN.out.at 0 rfl) (aG HX1.out) (by rw [aC aD, aC HX1.out]) (bC _ _ _) ?_
    generalize hw : World.setRow v4 _ _ = v5
    have aL := zh (aN.out.set 0 rfl (sgA x1 h1 n1))
    rw [hw] at aL
    have bN := zh (dB.out.setRow (aN.out.at 0 rfl) (by decide) (sgA x1 h1 n1))
    rw [hw] at bN
    have bL := zh (dA.out.setRow (aN.out.at 0 rfl) (by decide) (sgA x1 h1 n1))
    rw [hw] at bL
    clear hw
    refine hK.out _ _ aL.out.b fun _ => ?_; clear hK K
    refine zr 14 rfl (fun K hK => ?_)
    rw [if_pos (by rfl)]
    refine wp_store_row 60 _ _ rfl gb (siA l1 (.slice sp1 N c1) (.slice sp2 M c2)) rfl rfl 60 _ (aL.out.at 1 rfl) (aP _ _ _) rfl (bU _ _ _ _ _ _ _) ?_
    generalize hw : World.setRow v5 _ _ = v6
    have aM := zh (aL.out.set 1 rfl (siA l1 (.slice sp1 N c1) (.slice sp2 M c2)))
    rw [hw] at aM
    have bM := zh (bN.out.setRow (aL.out.at 1 rfl) (by decide) (siA l1 (.slice sp1 N c1) (.slice sp2 M c2)))
    rw [hw] at bM
    have bK := zh (bL.out.setRow (aL.out.at 1 rfl) (by decide) (siA l1 (.slice sp1 N c1) (.slice sp2 M c2)))
    rw [hw] at bK
    clear hw
    refine hK.out _ _ aM.out.b fun _ => ?_; clear hK K
    refine zv 15 rfl ?_
    refine zd ?_ _
    go_wp2_with fail
    go_meet
    exact ⟨ga, gb, sp1, c1, sp2, c2, rfl, rfl, rfl, aM.out.at 0 rfl, aM.out.at 1 rfl, bM.out, bK.out, (aM.out.lt 0 rfl).1, (aM.out.lt 1 rfl).1, aM.out.b⟩
  case rest =>
  obtain ⟨ga, gb, sp1, c1, sp2, c2, rfl, rfl, rfl, HC1⟩ := hcut
  have HFc := zh (HF1.out.belowB HC1.out.2.2.2.2.2.2 QM.out)
  have HGA := zh HC1.out.1; have HGB := zh HC1.out.2.1; have HOC := zh HC1.out.2.2.1; have HOP := zh HC1.out.2.2.2.1
  have hga := HC1.out.2.2.2.2.1; have hgb := HC1.out.2.2.2.2.2.1
  have hBk := QM.out
  have hgal := (Array.getElem?_eq_some_iff.1 HGA.out).1; have hgbl := (Array.getElem?_eq_some_iff.1 HGB.out).1
  clear HC1 HCM HCS uE HF1 EI
  have hbe := kC
  have hbs := fG
  rcases HS.out.k with ⟨hE, rfl, rfl, rfl⟩ | ⟨rfl, hk, leaf, rfl, rfl, hk6, hlf, rfl, rfl, rfl, rfl, rfl, rfl, rfl, rfl⟩
  ·have HVE : Hid (V = uJ E) := by
    have := IZ (x := x) HVL.out (show sgE h n ≠ 0 by rw [← HS.out.e]; exact hE)
    rw [HV.out] at this
    rw [HS.out.e]; exact this
   have hq : (E == 0) = false := by simpa using hE
   have HNE := zh hE
   clear hE
   go_wp2_with (first
    | (refine wpList_store_row rfl 25 _ _ rfl (w.heap.size + 1 + 1) zEn rfl rfl 25 _ HFc.out.y (aF _ _ _) rfl (bX _ _ _ _ _ _ _) ?_; generalize hw8 : World.setRow wc _ _ = w8; have HY8 : Hid (w8.heap[w.heap.size + 1 + 1]? = some (.cells zEn 25 (0, 0))) := (by rw [← hw8]; exact setRow_heap _ _ _ _ _ _ HFc.out.y); have HZ8 : Hid (w8.heap[w.heap.size + 1 + 1 + 1]? = some (.cells (sgA bO 0 0) 64 (0, 0))) := (by rw [← hw8]; exact (setRow_other _ _ _ _ (by omega)).trans HFc.out.z); have HB8 : Hid (Below w.heap.size w w8) := (by rw [← hw8]; exact below_setRow HFc.out.b (by omega) _); clear hw8)
    | (refine wpList_store_row rfl 64 _ _ rfl (w.heap.size + 1 + 1 + 1) (sgA bO 0 0) rfl rfl 64 _ HZ8.out (aG aD) rfl (bC _ _ _) ?_; generalize hw9 : World.setRow w8 _ _ = w9; have HZ9 : Hid (w9.heap[w.heap.size + 1 + 1 + 1]? = some (.cells (sgA bO 0 0) 64 (0, 0))) := (by rw [← hw9]; exact setRow_heap _ _ _ _ _ _ HZ8.out); have HY9 : Hid (w9.heap[w.heap.size + 1 + 1]? = some (.cells zEn 25 (0, 0))) := (by rw [← hw9]; exact (setRow_other _ _ _ _ (by omega)).trans HY8.out); have HB9 : Hid (Below w.heap.size w w9) := (by rw [← hw9]; exact below_setRow HB8.out (by omega) _); clear hw9))
   exact bodyPost_ret (aY (P := Tryz.prog) rfl _ _ (w.heap.size + 1 + 1) (w.heap.size + 1 + 1 + 1) 25 64 _ _ (0, 0) (0, 0) _ _ rfl HY9.out rfl HZ9.out Tryz.underlying25 rfl (aF _ _ _) Tryz.underlying64 rfl (aG aD)) rfl (by rw [HVE.out]; exact SgO.err HNE.out HB9.out)
  ·have HE0 : Hid (sgE (hk : Int) (leaf : Int) = 0) := HS.out.e.symm
   have QK : Hid (kO x (hk : Int) (leaf : Int) d = ⟨hk, iC x hk 0, leaf, fA x leaf d, dN x hk leaf⟩) := by show _ = _; unfold kO; rw [Int.toNat_natCast, Int.toNat_natCast]
   clear HS hbe hbs
   have cH := AE HX.out HFc.out.s
   have HXS := zh (NK HFc.out.s)
   have HIX := zh (bS HX.out)
   have HCN := zh (FS x hk wc HX.out hk6)
   go_wp2_with (refine wpList_load_mid rfl 54 _ rfl (w.heap.size + 1) 0 rfl _ _ HXS.out Tryz.underlying54 rfl HIX.out ?_)
   refine HCN.out.mono ?_
   rintro e w2 ⟨rfl, hb⟩
   have HB2 := zh hb
   clear hb cH HCN HXS
   have HNK := zh (fW x hk 0)
   generalize hr : iC x hk 0 = r at *
   have HRE := zh hr
   clear hr
   have HZP := zh (PkRow.new w2 0 bO)
   have HRP := zh (PkRow.new w2 hk r)
   go_upto_region 7 with (refine wpList_store_row rfl 56 _ _ rfl w2.heap.size _ rfl rfl 56 _ HZP.out.k (dO HNK.out) (by rw [iL HNK.out]; rfl) (wX _ _) ?_; rw [bF]; generalize hw3 : World.alloc w2 _ = w3; have HP3 : Hid (PkRow w2 hk r w3) := (by rw [← hw3]; exact HRP.out); clear hw3 HZP HRP)
   have HB3 : Hid (Below wc.heap.size wc w3) := HB2.out.trans (HP3.out.b.mono HB2.out.size)
   have hs2 := HB2.out.size
   obtain ⟨X, hX⟩ : ∃ X : Sg, X = ⟨hk, r, leaf, sp1, 68, c1, fA x leaf d, sp2, hk, c2, dN x hk leaf⟩ := ⟨_, rfl⟩
   have HXO : Hid (OkG X) := by rw [hX]; exact HNK.out
   have HXP : Hid (pg X = kO x hk leaf d) := by rw [hX, QK.out]; rfl
   have HXT : Hid (SgT wc B X) := by rw [hX]; exact ⟨HNK.out, HOC.out, HOP.out, jU _ _ _, iA _ _ _⟩
   have HBX : Hid (∀ w', (Instr.build 62 #[(0, .agg (pkA (hk : Int) r)), (1, .agg (siA (leaf : Int) (.slice sp1 68 c1) (.slice sp2 hk c2)))]).run Tryz.prog w' = .ok (.agg (bB X).toArray) w') := fun w' => by have h := JM (⟨hk, r, leaf, sp1, 68, c1, fA x leaf d, sp2, hk, c2, dN x hk leaf⟩ : Sg) HNK.out w'; rw [hX]; exact h
   have NP : Hid (dg (idB (hk : Int) r) = dv (idP (pg X))) := by show _ = _; rw [hX]; rfl
   clear hX QK HRE
   obtain ⟨gp, hgp⟩ : ∃ gp, gp = w2.heap.size := ⟨_, rfl⟩
   have HPK3 : Hid (w3.heap[gp]? = some (.cells (pkA (hk : Int) r) 56 (0, 0))) := by rw [hgp]; exact HP3.out.k
   have hgp3 : gp < w3.heap.size := (Array.getElem?_eq_some_iff.1 HPK3.out).1
   have HF3 := zh (HFc.out.below HB3.out)
   have HUP3 := zh (HUP.out _ HF3.out.b)
   rw [← hgp]
   have hgpc : wc.heap.size ≤ gp := by omega
   clear HP3 HB2 hs2 hgp
   obtain ⟨B3, hB3e⟩ : ∃ B3, B3 = w3.heap.size := ⟨_, rfl⟩
   have QN : Hid (w.heap.size < B3 ∧ gp < B3) := ⟨by have := HF3.out.k; omega, by omega⟩
   have jQ : Hid (Below B3 w3 w3) := Below.refl _ _
   have hBk3 : B3 ≤ w3.heap.size := Nat.le_of_eq hB3e
   have HCI : Hid (∀ w', Calls Tryz.prog 30 #[.agg (pkL (hk : Int) r).toArray] w' fun e w'' => e = .returned (.agg (dv (idP (pg X)))) ∧ Below w'.heap.size w' w'') := fun w' => by
    have h := jH hk r w' HNK.out
    rw [NP.out] at h
    exact h
   have HCF : Hid (∀ w', Below B3 w3 w' → Calls Tryz.prog 29 #[.slice sq m cq, .agg (dv (idP (pg X)))] w' fun e w'' => ∃ i : Int, e = .returned (.int .i64 i) ∧ decide (0 ≤ i) = pI (l.map pg) (kO x hk leaf d) ∧ Below w'.heap.size w' w'') := fun w' hb => by
    have h := BO sq m cq l (idP (pg X)) w' (HUP.out _ (HF3.out.b.trans (hb.mono (Nat.le_of_lt QN.out.1)))).2 (gH _) (by omega)
    have hq : OZ (l.map pg) (idP (pg X)) = pI (l.map pg) (kO x hk leaf d) := by rw [OY, HXP.out]
    rw [hq] at h
    exact h
   obtain ⟨dv0, hdv0⟩ : ∃ dv0, dv (idP (pg X)) = dv0 := ⟨_, rfl⟩
   rw [hdv0] at HCI HCF
   have HB3L : Hid (w3.heap.size ≤ B3) := Nat.le_of_eq hB3e.symm
   clear hB3e hdv0 NP HUP3
   refine wp_region_held_drew (S := fun w' => Below B3 w3 w') (by kernel_rfl) jQ.out.drew (fun hHeld => ?_)
   refine zv 0 rfl ?_
   refine zx 1 rfl (v := ?_) ?_ ?_; rotate_left
   ·intro w' hSw; have c0 := fU ((hSw.block _ QN.out.1).trans HF3.out.e); go_simp; try with_reducible rfl
   refine' zk 2 rfl (v := _) (yieldsIf_load_mid (by rfl) _ _ rfl _ _ rfl _ _ ?hS2n67 Tryz.underlying56 rfl (iQ HNK.out)) ?rest2n67
   case hS2n67 =>
    intro w' hSw
    exact aO (L := pkL (hk : Int) r) ((hSw.block _ QN.out.2).trans HPK3.out)
   try simp only [Act.put, zA, zB, zC, zD, zE, zF]
   refine zr 3 rfl (fun K hK => ?_)
   go_simp
   with_reducible refine (HCI.out _).mono ?_
   rintro e v1 ⟨rfl, hb⟩
   have eN : Hid (Below B3 w3 v1) := (jQ.out.drew).trans (hb.mono (by have := ((jQ.out.drew)).size; have := hBk3; omega))
   clear hb
   go_wp2_with fail
   refine hK.out _ _ eN.out fun _ => ?_; clear hK K
   try simp only [Act.put, zA, zB, zC, zD, zE, zF]
   refine zr 4 rfl (fun K hK => ?_)
   go_simp
   with_reducible refine (HCF.out _ eN.out).mono ?_
   rintro e w5 ⟨i, rfl, hfi, hb⟩
   have IM : Hid (Below B3 w3 w5) := eN.out.trans (hb.mono (by have := (eN.out).size; have := hBk3; omega))
   clear hb
   go_wp2_with fail
   refine hK.out _ _ IM.out fun _ => ?_; clear hK K
   try simp only [Act.put, zA, zB, zC, zD, zE, zF]
   refine zv 5 rfl ?_
   refine zd ?_ _
   clear hHeld
   have hc3 := HB3.out.size
   have IP : Hid (Below wc.heap.size wc w5) := HB3.out.trans (IM.out.mono (by have := QN.out; omega))
   have HF5 := zh (HFc.out.below IP.out)
   have HPK5 : Hid (w5.heap[gp]? = some (.cells (pkA (hk : Int) r) 56 (0, 0))) := (IM.out.block _ QN.out.2).trans HPK3.out
   have HGB5 : Hid (w5.heap[gb]? = some (.cells (siA (leaf : Int) (.slice sp1 68 c1) (.slice sp2 hk c2)) 60 (0, 0))) := (IP.out.block _ hgbl).trans HGB.out
   clear eN IM jQ HCI HCF HF3 HPK3 HGB HB3L
   have hbe := kC
   have hbs := fG
   have cS := fU HF5.out.e
   have hlm : (l.map pg).length = m := by rw [List.length_map]; exact HL.out.len
   have HLM := zh hlm
   clear hlm
   cases hhas : pI (l.map pg) (kO x hk leaf d)
   ·have QP := zh hhas
    rw [hhas] at hfi
    clear hhas
    by_cases h8e : m = 8
    ·have HVE : Hid (V = uJ 3) := by
      have := IY (x := x) HVL.out HE0.out (by rw [hMD]; exact QP.out) (by rw [HLM.out]; exact h8e)
      rw [HV.out] at this; exact this
     have hq : ((m : Int) == 8) = true := by rw [h8e]; rfl
     go_wp2_with (first
      | (refine wpList_store_row rfl 25 _ _ rfl (w.heap.size + 1 + 1) zEn rfl rfl 25 _ HF5.out.y (aF _ _ _) rfl (bX _ _ _ _ _ _ _) ?_; generalize hw8 : World.setRow w5 _ _ = w8; have HY8 : Hid (w8.heap[w.heap.size + 1 + 1]? = some (.cells zEn 25 (0, 0))) := (by rw [← hw8]; exact setRow_heap _ _ _ _ _ _ HF5.out.y); have HZ8 : Hid (w8.heap[w.heap.size + 1 + 1 + 1]? = some (.cells (sgA bO 0 0) 64 (0, 0))) := (by rw [← hw8]; exact (setRow_other _ _ _ _ (by omega)).trans HF5.out.z); have HB8 : Hid (Below w.heap.size w w8) := (by rw [← hw8]; exact below_setRow HF5.out.b (by omega) _); clear hw8)
      | (refine wpList_store_row rfl 64 _ _ rfl (w.heap.size + 1 + 1 + 1) (sgA bO 0 0) rfl rfl 64 _ HZ8.out (aG aD) rfl (bC _ _ _) ?_; generalize hw9 : World.setRow w8 _ _ = w9; have HZ9 : Hid (w9.heap[w.heap.size + 1 + 1 + 1]? = some (.cells (sgA bO 0 0) 64 (0, 0))) := (by rw [← hw9]; exact setRow_heap _ _ _ _ _ _ HZ8.out); have HY9 : Hid (w9.heap[w.heap.size + 1 + 1]? = some (.cells zEn 25 (0, 0))) := (by rw [← hw9]; exact (setRow_other _ _ _ _ (by omega)).trans HY8.out); have HB9 : Hid (Below w.heap.size w w9) := (by rw [← hw9]; exact below_setRow HB8.out (by omega) _); clear hw9))
     exact bodyPost_ret (aY (P := Tryz.prog) rfl _ _ (w.heap.size + 1 + 1) (w.heap.size + 1 + 1 + 1) 25 64 _ _ (0, 0) (0, 0) _ _ rfl HY9.out rfl HZ9.out Tryz.underlying25 rfl (aF _ _ _) Tryz.underlying64 rfl (aG aD)) rfl (by rw [HVE.out]; exact SgO.err (by decide) HB9.out)
    ·have HVE : Hid (V = ⟨0, t, b, nL (l.map pg) (kO x hk leaf d), x, hk, leaf + 1⟩) := by
      have := BI (x := x) HVL.out HE0.out (by rw [hMD]; exact QP.out) (by rw [HLM.out]; exact h8e)
      rw [HV.out, hMD] at this; exact this
     have hq : ((m : Int) == 8) = false := by simp; omega
     clear hbe hbs
     have PT := zh (HUP.out _ HF5.out.b)
     have HXT5 : Hid (SgT w5 B X) := HXT.out.below IP.out
     have hBk5 : w.heap.size + 4 ≤ w5.heap.size := HF5.out.k
     have hc5 := IP.out.size
     have HCN := zh (mR sq m cq l X w5 PT.out.2 HLNN.out HXO.out HXT5.out.dat (by omega))
     go_wp2_with (first
      | (refine wpList_load_row rfl 56 _ rfl gp rfl 56 _ (0, 0) _ HPK5.out Tryz.underlying56 rfl (dO HNK.out) ?_)
      | (refine wpList_load_row rfl 60 _ rfl gb rfl 60 _ (0, 0) _ HGB5.out Tryz.underlying60 rfl (aP _ _ _) ?_)
      | (refine cN rfl 62 [(0, .tmp 57), (1, .tmp 58)] rfl [(0, .agg (pkA (hk : Int) r)), (1, .agg (siA (leaf : Int) (.slice sp1 68 c1) (.slice sp2 hk c2)))] rfl _ (HBX.out _) ?_))
     refine HCN.out.mono ?_
     rintro e w9 ⟨sp9, cap9, k, hkm, rfl, HO9', hlo, hst, hb⟩
     have HB9 : Hid (Below w5.heap.size w5 w9) := hb
     have HO9 := zh HO9'
     have HIA := zh (rG (by rw [List.length_map, HL.out.len]; exact hkm) hlo (HiP.of NM.out hst))
     rw [HXP.out] at HIA
     clear hb HO9' hlo hst HCN cS PT
     have HF9 := zh (HF5.out.below HB9.out)
     have PR : Hid (SgT w9 B X) := HXT5.out.below HB9.out
     have cS9 := fU HF9.out.e
     have fS9 := frozen_of_row _ _ 2 _ _ HF9.out.e
     have QS : Hid ((w9.setCell ⟨w.heap.size, 2, none⟩ (.slice sp9 (m + 1) cap9)).heap[w.heap.size]? = some (.cells (enA t (.slice sp n0 cap) (.slice sp9 (m + 1) cap9)) 25 (0, 0))) := by
      have h := heap_setCell_same w9 w.heap.size 2 _ _ (.slice sp9 (m + 1) cap9) HF9.out.e
      rw [qO] at h
      exact h
     have HO10 : Hid (OwnG (w9.setCell ⟨w.heap.size, 2, none⟩ (.slice sp9 (m + 1) cap9)) w5.heap.size (.slice sp9 (m + 1) cap9) (l.take k ++ X :: l.drop k)) := ⟨World.ownsRow.kept HO9.out.1 (aR _ _ _ _) (cF HO9.out.1 HF9.out.e (by decide)), HO9.out.2⟩
     have MU : Hid (SgT (w9.setCell ⟨w.heap.size, 2, none⟩ (.slice sp9 (m + 1) cap9)) B X) := PR.out.setCell HF9.out.e rD _ _
     have HBA0 : Hid (Below w.heap.size w (w9.setCell ⟨w.heap.size, 2, none⟩ (.slice sp9 (m + 1) cap9))) := HF9.out.b.setCell (p := ⟨w.heap.size, 2, none⟩) (Nat.le_refl _) _
     have HB1A0 : Hid (Below (w.heap.size + 1) w9 (w9.setCell ⟨w.heap.size, 2, none⟩ (.slice sp9 (m + 1) cap9)) ∨ True) := .inr trivial
     have HYA0 : Hid ((w9.setCell ⟨w.heap.size, 2, none⟩ (.slice sp9 (m + 1) cap9)).heap[w.heap.size + 1 + 1]? = some (.cells zEn 25 (0, 0))) := (heap_setCell_other w9 ⟨w.heap.size, 2, none⟩ _ _ (show _ ≠ w.heap.size by omega)).trans HF9.out.y
     have HZA0 : Hid ((w9.setCell ⟨w.heap.size, 2, none⟩ (.slice sp9 (m + 1) cap9)).heap[w.heap.size + 1 + 1 + 1]? = some (.cells (sgA bO 0 0) 64 (0, 0))) := (heap_setCell_other w9 ⟨w.heap.size, 2, none⟩ _ _ (show _ ≠ w.heap.size by omega)).trans HF9.out.z
     have hlw : w.heap.size + 4 ≤ ga := by omega
     have HGA0 : Hid ((w9.setCell ⟨w.heap.size, 2, none⟩ (.slice sp9 (m + 1) cap9)).heap[ga]? = some (.cells (sgA x (hk : Int) ((leaf : Int) + 1)) 64 (0, 0))) := (heap_setCell_other w9 ⟨w.heap.size, 2, none⟩ _ _ (show _ ≠ w.heap.size by omega)).trans ((HB9.out.block _ (by omega)).trans ((IP.out.block _ hgal).trans HGA.out))
     clear HB1A0
     go_upto_region 12 with fail
     generalize World.setCell w9 _ _ = wA at *
     have HYA := HYA0; have HZA := HZA0; have QR := HGA0; have HBA := HBA0
     clear HYA0 HZA0 HGA0 HBA0 cS9 fS9 HO9 PR HF9 HXT5 HPK5 HGB5
     have hwA := HBA.out.size
     have NC := zh (HO10.out.below (Below.refl _ _).drew); have MT := zh (MU.out.below (Below.refl _ _).drew)
     have HYD : Hid (wA.drew.heap[w.heap.size + 1 + 1]? = some (.cells zEn 25 (0, 0))) := HYA.out
     refine wp_region_held_drew (S := fun w' => w'.heap[w.heap.size]? = some (.cells (enA t (.slice sp n0 cap) (.slice sp9 (m + 1) cap9)) 25 (0, 0)) ∧ w'.heap[ga]? = some (.cells (sgA x (hk : Int) ((leaf : Int) + 1)) 64 (0, 0))) (by kernel_rfl) ⟨QS.out, QR.out⟩ (fun hHeld => ?_)
     refine' zk 0 rfl (v := _) (yieldsIf_load_mid (by rfl) _ _ rfl _ _ rfl _ _ ?hS0n69 Tryz.underlying25 rfl (fR t (.slice sp n0 cap) (.slice sp9 (m + 1) cap9))) ?rest0n69
     case hS0n69 =>
      intro w' hSw
      exact aO (L := enL t (.slice sp n0 cap) (.slice sp9 (m + 1) cap9)) hSw.1
     try simp only [Act.put, zA, zB, zC, zD, zE, zF]
     refine' zk 1 rfl (v := _) (yieldsIf_load_mid (by rfl) _ _ rfl _ _ rfl _ _ ?hS1n70 Tryz.underlying64 rfl (fX HX.out)) ?rest1n70
     case hS1n70 =>
      intro w' hSw
      exact aO (L := sgL x (hk : Int) ((leaf : Int) + 1)) hSw.2
     try simp only [Act.put, zA, zB, zC, zD, zE, zF]
     refine zr 2 rfl (fun K hK => ?_)
     rw [if_pos (by rfl)]
     refine wp_store_row 25 _ _ rfl (w.heap.size + 1 + 1) (enA t (.slice sp n0 cap) (.slice sp9 (m + 1) cap9)) rfl rfl 25 _ HYA.out (aF _ _ _) rfl (bX _ _ _ _ _ _ _) ?_
     generalize hw : World.setRow _ _ _ = wB
     have HYB : Hid (wB.heap[w.heap.size + 1 + 1]? = some (.cells (enA t (.slice sp n0 cap) (.slice sp9 (m + 1) cap9)) 25 (0, 0))) := by rw [← hw]; exact setRow_heap _ _ _ _ _ _ HYA.out
     have HZB : Hid (wB.heap[w.heap.size + 1 + 1 + 1]? = some (.cells (sgA bO 0 0) 64 (0, 0))) := by rw [← hw]; exact (setRow_other _ _ _ _ (by omega)).trans HZA.out
     have HEB : Hid (wB.heap[w.heap.size]? = some (.cells (enA t (.slice sp n0 cap) (.slice sp9 (m + 1) cap9)) 25 (0, 0))) := by rw [← hw]; exact (setRow_other _ _ _ _ (by omega)).trans QS.out
     have HGB : Hid (wB.heap[ga]? = some (.cells (sgA x (hk : Int) ((leaf : Int) + 1)) 64 (0, 0))) := by rw [← hw]; exact (setRow_other _ _ _ _ (by omega)).trans QR.out
     have HBB : Hid (Below w.heap.size w wB) := by rw [← hw]; exact below_setRow HBA.out.drew (by omega) _
     have NB : Hid (OwnG wB w5.heap.size (.slice sp9 (m + 1) cap9) (l.take k ++ X :: l.drop k)) := by rw [← hw]; exact ⟨World.ownsRow.kept NC.out.1 (cJ _ _ _) (cF NC.out.1 HYD.out (by decide)), NC.out.2⟩
     have MS : Hid (SgT wB B X) := by rw [← hw]; exact MT.out.setRow HYD.out (by decide) _
     clear hw
     refine hK.out _ _ ⟨HEB.out, HGB.out⟩ fun _ => ?_; clear hK K
     refine zr 3 rfl (fun K hK => ?_)
     rw [if_pos (by rfl)]
     refine wp_store_row 64 _ _ rfl (w.heap.size + 1 + 1 + 1) (sgA x (hk : Int) ((leaf : Int) + 1)) rfl rfl 64 _ HZB.out (aG HX.out) (by rw [aC aD, aC HX.out]) (bC _ _ _) ?_
     generalize hw : World.setRow _ _ _ = wC
     have HYC : Hid (wC.heap[w.heap.size + 1 + 1]? = some (.cells (enA t (.slice sp n0 cap) (.slice sp9 (m + 1) cap9)) 25 (0, 0))) := by rw [← hw]; exact (setRow_other _ _ _ _ (by omega)).trans HYB.out
     have HZC : Hid (wC.heap[w.heap.size + 1 + 1 + 1]? = some (.cells (sgA x (hk : Int) ((leaf : Int) + 1)) 64 (0, 0))) := by rw [← hw]; exact setRow_heap _ _ _ _ _ _ HZB.out
     have HEC : Hid (wC.heap[w.heap.size]? = some (.cells (enA t (.slice sp n0 cap) (.slice sp9 (m + 1) cap9)) 25 (0, 0))) := by rw [← hw]; exact (setRow_other _ _ _ _ (by omega)).trans HEB.out
     have HGC : Hid (wC.heap[ga]? = some (.cells (sgA x (hk : Int) ((leaf : Int) + 1)) 64 (0, 0))) := by rw [← hw]; exact (setRow_other _ _ _ _ (by omega)).trans HGB.out
     have HBC : Hid (Below w.heap.size w wC) := by rw [← hw]; exact below_setRow HBB.out (by omega) _
     have QF : Hid (OwnG wC w5.heap.size (.slice sp9 (m + 1) cap9) (l.take k ++ X :: l.drop k)) := by rw [← hw]; exact ⟨World.ownsRow.kept NB.out.1 (cJ _ _ _) (cF NB.out.1 HZB.out (by decide)), NB.out.2⟩
     have MR : Hid (SgT wC B X) := by rw [← hw]; exact MS.out.setRow HZB.out (by decide) _
     clear hw
     refine hK.out _ _ ⟨HEC.out, HGC.out⟩ fun _ => ?_; clear hK K
     refine zv 4 rfl ?_
     refine zd ?_ _
     go_wp2_with fail
     refine bodyPost_ret (aY (P := Tryz.prog) rfl _ _ (w.heap.size + 1 + 1) (w.heap.size + 1 + 1 + 1) 25 64 _ _ (0, 0) (0, 0) _ _ rfl HYC.out rfl HZC.out Tryz.underlying25 rfl (aF _ _ _) Tryz.underlying64 rfl (aG HX.out)) rfl ?_
     rw [HVE.out]
     refine ⟨HBC.out, .inr ⟨rfl, sp9, m + 1, cap9, l.take k ++ X :: l.drop k, rfl, ?_, ?_, ⟨QF.out.1, QF.out.2⟩ |> fun h : OwnG wC w5.heap.size (.slice sp9 (m + 1) cap9) (l.take k ++ X :: l.drop k) => h.base (by omega), ?_⟩⟩
     ·rw [List.length_append, List.length_cons, List.length_take, List.length_drop, HL.out.len]; omega
     ·show _ = nL (l.map pg) (kO x hk leaf d)
      rw [HIA.out, List.map_append, List.map_cons, List.map_take, List.map_drop, HXP.out]
     ·intro y hy
      rcases List.mem_append.1 hy with h | h
      ·exact .inl (List.mem_of_mem_take h)
      ·rcases List.mem_cons.1 h with rfl | h
       ·exact .inr (MR.out.base (by omega))
       ·exact .inl (List.mem_of_mem_drop h)
   ·have HVE : Hid (V = uJ 5) := by
     have := IX (x := x) HVL.out HE0.out (by rw [hMD]; exact hhas)
     rw [HV.out] at this; exact this
    rw [hhas] at hfi
    clear hhas
    go_wp2_with (first
     | (refine wpList_store_row rfl 25 _ _ rfl (w.heap.size + 1 + 1) zEn rfl rfl 25 _ HF5.out.y (aF _ _ _) rfl (bX _ _ _ _ _ _ _) ?_; generalize hw8 : World.setRow w5 _ _ = w8; have HY8 : Hid (w8.heap[w.heap.size + 1 + 1]? = some (.cells zEn 25 (0, 0))) := (by rw [← hw8]; exact setRow_heap _ _ _ _ _ _ HF5.out.y); have HZ8 : Hid (w8.heap[w.heap.size + 1 + 1 + 1]? = some (.cells (sgA bO 0 0) 64 (0, 0))) := (by rw [← hw8]; exact (setRow_other _ _ _ _ (by omega)).trans HF5.out.z); have HB8 : Hid (Below w.heap.size w w8) := (by rw [← hw8]; exact below_setRow HF5.out.b (by omega) _); clear hw8)
     | (refine wpList_store_row rfl 64 _ _ rfl (w.heap.size + 1 + 1 + 1) (sgA bO 0 0) rfl rfl 64 _ HZ8.out (aG aD) rfl (bC _ _ _) ?_; generalize hw9 : World.setRow w8 _ _ = w9; have HZ9 : Hid (w9.heap[w.heap.size + 1 + 1 + 1]? = some (.cells (sgA bO 0 0) 64 (0, 0))) := (by rw [← hw9]; exact setRow_heap _ _ _ _ _ _ HZ8.out); have HY9 : Hid (w9.heap[w.heap.size + 1 + 1]? = some (.cells zEn 25 (0, 0))) := (by rw [← hw9]; exact (setRow_other _ _ _ _ (by omega)).trans HY8.out); have HB9 : Hid (Below w.heap.size w w9) := (by rw [← hw9]; exact below_setRow HB8.out (by omega) _); clear hw9))
    exact bodyPost_ret (aY (P := Tryz.prog) rfl _ _ (w.heap.size + 1 + 1) (w.heap.size + 1 + 1 + 1) 25 64 _ _ (0, 0) (0, 0) _ _ rfl HY9.out rfl HZ9.out Tryz.underlying25 rfl (aF _ _ _) Tryz.underlying64 rfl (aG aD)) rfl (by rw [HVE.out]; exact SgO.err (by decide) HB9.out)
end Go.Proofs.YtcligodahogpkaaGreatDoor
