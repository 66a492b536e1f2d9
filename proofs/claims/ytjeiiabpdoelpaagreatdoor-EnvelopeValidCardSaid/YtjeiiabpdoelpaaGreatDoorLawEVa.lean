/-
  The walk of EnvelopeValid (conditions: the arguments read as envelopes and cases; the table of constants reads as it is laid).
-/
import Derived.Test.YtjeiiabpdoelpaaGreatDoorZip
import Derived.Test.YtjeiiabpdoelpaaGreatDoorEnvT
import Derived.Test.YtjeiiabpdoelpaaGreatDoorEnvQ
import Derived.Test.YtjeiiabpdoelpaaGreatDoorDgsS
namespace Go.Proofs.YtjeiiabpdoelpaaGreatDoor
open Go.RowKit Go.Proofs.YtjeiiabpdoelpaaGreatDoor.One
set_option maxRecDepth 100000 in
set_option maxHeartbeats 4000000 in
theorem lN (t : ByteArray) (sp : Option Addr) (n cap : Nat) (b : List UInt8) (sq : Option Addr) (m cq : Nat) (l : List Sg) (sp0 : Option Addr) (n0 cap0 : Nat) (b0 : List UInt8) (sc : Option Addr) (nc cc : Nat) (sn : List UInt8) (kk yy : Int) (w : World) (hp : BSrc w w.heap.size sp n cap b) (hpn : sp = none → cap = 0) (hl : SgsIn w w.heap.size sq m cq l) (hln : sq = none → cq = 0) (hp0 : BSrc w w.heap.size sp0 n0 cap0 b0) (hp0n : sp0 = none → cap0 = 0) (hn0 : n0 ≤ cap0) (hs : BSrc w w.heap.size sc nc cc sn) (hyy : 0 ≤ yy ∧ yy < 256) (hk : KayIn w) (hk0 : 1 < w.heap.size) :
 Calls Tryz.prog 3 #[.agg (enA t (.slice sp n cap) (.slice sq m cq)), .agg (caA (.slice sp0 n0 cap0) (.slice sc nc cc) kk yy)] w fun e w' => e = .returned (.bool true) ∧ Below w.heap.size w w' := by
 have HP := Lib.hid hp; have HPN := Lib.hid hpn; have HL := Lib.hid hl; have HLN := Lib.hid hln; have HP0 := Lib.hid hp0; have HP0N := Lib.hid hp0n; have HSN := Lib.hid hs; have HK := Lib.hid hk; have HY := Lib.hid hyy; have HN0 := Lib.hid hn0
 have HE := Lib.hid (heap_alloc_new w (.cells (enA t (.slice sp n cap) (.slice sq m cq)) 25))
 clear hp hpn hl hln hp0 hp0n hs hk hyy hn0
 go_enter Tryz.func3, Tryz.ntmps3
 go_upto_region 1 with fail
 generalize hwz : World.alloc w _ = wz
 generalize hw0 : World.alloc wz _ = w0
 have HEz : Hid (wz.heap[w.heap.size]? = some (.cells (enA t (.slice sp n cap) (.slice sq m cq)) 25 (0, 0))) := by rw [← hwz]; exact HE.out
 have HBz : Hid (Below w.heap.size w wz) := by rw [← hwz]; exact aB _ _
 have hsz : wz.heap.size = w.heap.size + 1 := by rw [← hwz]; simp
 have HC0 : Hid (w0.heap[w.heap.size + 1]? = some (.cells (caA (.slice sp0 n0 cap0) (.slice sc nc cc) kk yy) 27 (0, 0))) := by rw [← hw0, ← hsz]; exact heap_alloc_new _ _
 have uY : Hid (Below wz.heap.size wz w0) := by rw [← hw0]; exact aB _ _
 have hs0 : w0.heap.size = w.heap.size + 2 := by rw [← hw0, World.size_alloc, hsz]
 have HE0 : Hid (w0.heap[w.heap.size]? = some (.cells (enA t (.slice sp n cap) (.slice sq m cq)) 25 (0, 0))) := (uY.out.block _ (by omega)).trans HEz.out
 have HB0 : Hid (Below w.heap.size w w0) := HBz.out.trans (uY.out.mono (by omega))
 try rw [hsz]
 clear hwz hw0 HE HEz HBz uY hsz
 have HCL := Lib.hid (xQ t (.slice sp n cap) sp n cap rfl sq m cq l w0 ((HL.out.below HB0.out (Nat.le_refl _)).below (Below.refl w0.heap.size w0) (by omega)))
 go_upto_region 2 with (refine wpList_load_row rfl 25 _ rfl w.heap.size rfl 25 _ (0, 0) _ HE0.out Tryz.underlying25 rfl (aS _ _ _) ?_)
 refine HCL.out.mono ?_
 rintro e w1 ⟨bl, rfl, hlt, hb⟩
 have HB01 := Lib.hid hb
 have HB1 : Hid (Below w.heap.size w w1) := HB0.out.trans (hb.mono (by omega))
 clear hb HCL
 have hs1 := HB01.out.size
 cases bl
 ·go_wp2_with fail
  go_ret
  exact ⟨rfl, HB1.out⟩
 have NY := Lib.hid (hlt rfl)
 clear hlt
 have HE1 : Hid (w1.heap[w.heap.size]? = some (.cells (enA t (.slice sp n cap) (.slice sq m cq)) 25 (0, 0))) := (HB01.out.block _ (by omega)).trans HE0.out
 have HC1 : Hid (w1.heap[w.heap.size + 1]? = some (.cells (caA (.slice sp0 n0 cap0) (.slice sc nc cc) kk yy) 27 (0, 0))) := (HB01.out.block _ (by omega)).trans HC0.out
 clear HE0 HC0 HB01
 have HEX : Hid (EvX w1 t sp n cap b sq m cq l) := ⟨NY.out.2.1, NY.out.1, NY.out.2.2.1, (HP.out.below HB1.out (Nat.le_refl _)).more HB1.out.size, HPN.out, HL.out.up HB1.out (Nat.le_refl _), HLN.out, fun y hy => by have := NY.out.2.2.2 y hy; omega⟩
 obtain ⟨B, hBe⟩ : ∃ B, B = w1.heap.size := ⟨_, rfl⟩
 have oI : Hid (Blks B w1 w1 []) := Blks.start (Below.refl _ _) (Nat.le_of_eq hBe)
 have HLT : Hid (w.heap.size < B ∧ w.heap.size + 1 < B) := ⟨by omega, by omega⟩
 have HBe := Lib.hid hBe
 have HCM : Hid (∀ w', Below B w1 w' → Calls Tryz.prog 11 #[.agg (caL (.slice sp0 n0 cap0) (.slice sc nc cc) kk yy).toArray] w' (MdX w')) := fun w' hb => by
  have hbb : Below w.heap.size w w' := HB1.out.trans (hb.mono (by have := HLT.out; omega))
  exact (EF n0 cap0 sp0 b0 sc nc cc sn kk yy w' ((HP0.out.below hbb (Nat.le_refl _)).more hbb.size) HP0N.out ((HSN.out.below hbb (Nat.le_refl _)).more hbb.size) HN0.out HY.out).mono fun e w'' hh => hh.X
 clear hBe
 go_upto_region 3 with fail
 go_cut [13, 14, 15] (fun s13 s14 s15 wx => ∃ gR, s13 = .slice (some ⟨gR, 0, none⟩) 2 2 ∧ s14 = .int .i64 2 ∧ s15 = .int .i64 0 ∧ Hid (EvR wx gR ∧ Below B w1 wx))
 case first =>
  as_aux_lemma =>
   refine wp_region_held_drew (S := fun w' => Below B w1 w') (by kernel_rfl) oI.out.b.drew (fun hHeld => ?_)
   refine' zk 0 rfl (v := _) (yieldsIf_load_mid (by rfl) _ _ rfl _ _ rfl _ _ ?hS0n1 Tryz.underlying25 rfl (eN _ _ _)) ?rest0n1
   case hS0n1 =>
    intro w' hSw
    exact aP (L := (enL t (.slice sp n cap) (.slice sq m cq))) ((hSw.block _ HLT.out.1).trans HE1.out)
   try simp only [Act.put, zA, zB, zC, zD, zE, zF]
   refine' zk 1 rfl (v := _) (yieldsIf_load_mid (by rfl) _ _ rfl _ _ rfl _ _ ?hS1n2 Tryz.underlying27 rfl (MG _ _ _ _)) ?rest1n2
   case hS1n2 =>
    intro w' hSw
    exact aP (L := (caL (.slice sp0 n0 cap0) (.slice sc nc cc) kk yy)) ((hSw.block _ HLT.out.2).trans HC1.out)
   try simp only [Act.put, zA, zB, zC, zD, zE, zF]
   refine zw 5 rfl (v := ?_) ?_ ?_; rotate_left
   ·intro w' hSw; go_simp; try with_reducible rfl
   try simp only [Act.put, zA, zB, zC, zD, zE, zF]
   refine zr 2 rfl (fun K hK => ?_)
   go_simp
   with_reducible refine (HCM.out _ (oI.out.drew).b).mono ?_
   rintro e v1 ⟨⟨t2, a1, n1, c1, b2, a2, n2, c2, l2, rfl, hev⟩, hb⟩
   have cX := Lib.hid (oI.out.call ((Below.refl _ _).drew.trans hb))
   have HEVv1 := Lib.hid hev
   clear hev
   clear hb
   go_wp2_with fail
   refine hK.out _ _ cX.out.b (fun hHeld => ?_); clear hK K
   refine zr 3 rfl (fun K hK => ?_)
   rw [if_pos (by rfl)]
   refine aY 30 2 [(0, .tmp 10), (1, .tmp 12)] rfl [(0, .agg (enL t (.slice sp n cap) (.slice sq m cq)).toArray), (1, .agg (enL t2 (.slice a1 n1 c1) (.slice a2 n2 c2)).toArray)] rfl _ _ (ID _ _ _ _ _ _ _) ?_
   obtain ⟨gR, v2, hg, hw, bA, iO⟩ := cX.out.allocd (.cells ((enL t (.slice sp n cap) (.slice sq m cq)) ++ (enL t2 (.slice a1 n1 c1) (.slice a2 n2 c2))).toArray 25 (0, 0))
   go_simp
   try rw [hg]
   generalize hq : World.alloc v1 _ = q
   obtain rfl : v2 = q := hw.symm.trans hq
   clear hg hw hq
   have HEVv2 := Lib.hid (HEVv1.out.below iO.out)
   refine hK.out _ _ bA.out.b (fun hHeld => ?_); clear hK K
   refine zw 4 rfl (v := ?_) ?_ ?_; rotate_left
   ·intro w' hSw; go_simp; try with_reducible rfl
   try simp only [Act.put, zA, zB, zC, zD, zE, zF]
   refine zd ?_ _
   go_wp2_with fail
   go_meet
   exact ⟨gR, rfl, rfl, rfl, EvR.of (bA.out.at 0 rfl) (HEX.out.below (show Below w1.heap.size w1 v2 from by rw [← HBe.out]; exact bA.out.b)) HEVv2.out, bA.out.b⟩
 case rest =>
 obtain ⟨gR, rfl, rfl, rfl, HQ⟩ := hcut
 have HBc : Hid (Below w.heap.size w wc) := HB1.out.trans (HQ.out.2.mono (Nat.le_of_lt HLT.out.1))
 clear oI HCM HEX HE1 HC1 NY
 go_wp2_with fail
 go_loopw [15] (fun i wr => ∃ k : Nat, i = .int .i64 k ∧ k ≤ 2 ∧ Hid (EvR wr gR) ∧ Hid (Below w.heap.size w wr)) (fun i _ => 2 - (intOf i).toNat)
 case atStart => exact ⟨0, rfl, by omega, HQ.out.1, HBc.out⟩
 case round =>
  obtain ⟨k, rfl, hk2, HR, HB⟩ := hrel
  by_cases hlt : k < 2
  ·have hd : decide ((k : Int) < 2) = true := by simp; omega
   obtain ⟨tx, px, nx, cx, bx, qx, mx, dx, lx, hev, hrow⟩ := HR.out.e k hlt
   have HEVX := Lib.hid hev; have sY := Lib.hid hrow
   clear hev hrow
   have p1 : (0 : Int) ≤ (k : Int) := by omega
   have p2 : (k : Int) < (2 : Int) := by omega
   have HZS := Lib.hid (heap_alloc_new wr (.cells zEn 25))
   go_upto_region 6 with (first
    | (refine wpList_load_mid rfl 25 _ rfl gR (k * 3) rfl _ _ sY.out Tryz.underlying25 rfl (eN _ _ _) ?_)
    | (refine wpList_store_row rfl 25 _ _ rfl wr.heap.size (enA tx (.slice px nx cx) (.slice qx mx dx)) rfl rfl 25 _ HZS.out (aS _ _ _) rfl (dJ _ _ _ _ _ _ _) ?_; rw [bY]; generalize hw4 : World.alloc wr _ = w4; have HX4' : Hid (w4.heap[wr.heap.size]? = some (.cells (enA tx (.slice px nx cx) (.slice qx mx dx)) 25 (0, 0))) := (by rw [← hw4]; exact heap_alloc_new _ _); have HBr4 : Hid (Below wr.heap.size wr w4) := (by rw [← hw4]; exact aB _ _); have hs4 : w4.heap.size = wr.heap.size + 1 := (by rw [← hw4]; simp); clear hw4 HZS))
   obtain ⟨gX, hgX⟩ : ∃ gX, gX = wr.heap.size := ⟨_, rfl⟩
   have HX4 : Hid (w4.heap[gX]? = some (.cells (enA tx (.slice px nx cx) (.slice qx mx dx)) 25 (0, 0))) := by rw [hgX]; exact HX4'.out
   rw [← hgX]
   have HEV4 : Hid (EvX w4 tx px nx cx bx qx mx dx lx) := HEVX.out.below HBr4.out
   have HR4 : Hid (EvR w4 gR) := HR.out.below HBr4.out
   have hsw := HB.out.size
   have HB4 : Hid (Below w.heap.size w w4) := HB.out.trans (HBr4.out.mono hsw)
   obtain ⟨BX, hX⟩ : ∃ BX, BX = w4.heap.size := ⟨_, rfl⟩
   have HX0 := Lib.hid hX
   have HLX : Hid (gX < BX) := by show _ < _; omega
   have HLW : Hid (w.heap.size < BX) := by show _ < _; omega
   have yL : Hid (Blks BX w4 w4 []) := Blks.start (Below.refl _ _) (Nat.le_of_eq hX)
   clear HX4' hgX hs4 hX HEVX sY HR HB HBr4
   have HKW : Hid (∀ w', Below BX w4 w' → EvX w' tx px nx cx bx qx mx dx lx ∧ KayIn w' ∧ 1 < w'.heap.size) := fun w' hb => by
    have hbb : Below w.heap.size w w' := HB4.out.trans (hb.mono (Nat.le_of_lt HLW.out))
    exact ⟨HEV4.out.below (by rw [← HX0.out]; exact hb), HK.out.below hbb hk0, Nat.lt_of_lt_of_le hk0 hbb.size⟩
   obtain ⟨v, hv⟩ : ∃ v, v = gM tx bx (lx.map pg) := ⟨_, rfl⟩
   obtain ⟨S, hS⟩ : ∃ S, S = tP tx bx (lx.map pg) := ⟨_, rfl⟩
   have HS8 : Hid (S.length ≤ 100000000) := by show _ ≤ _; rw [hS]; have := DL tx bx (lx.map pg); omega
   have HCV : Hid (∀ w', Below BX w4 w' → Calls Tryz.prog 12 #[.agg (enL tx (.slice px nx cx) (.slice qx mx dx)).toArray] w' fun e w'' => e = .returned (.bool v) ∧ Below w'.heap.size w' w'') := fun w' hb => by
    rw [hv]; obtain ⟨h1, h2, h3⟩ := HKW.out w' hb; exact gD tx px nx cx bx qx mx dx lx w' h1.tl h1.p h1.s h2 h3
   have HCR : Hid (∀ w', Below BX w4 w' → Calls Tryz.prog 13 #[.agg (enL tx (.slice px nx cx) (.slice qx mx dx)).toArray] w' fun e w'' => e = .returned (.bool v) ∧ Below w'.heap.size w' w'') := fun w' hb => by
    rw [hv]; obtain ⟨h1, h2, h3⟩ := HKW.out w' hb; exact jX tx px nx cx bx qx mx dx lx w' h1.tl h1.p h1.s
   have HCS : Hid (∀ w', Below BX w4 w' → Calls Tryz.prog 15 #[.agg (enL tx (.slice px nx cx) (.slice qx mx dx)).toArray] w' fun e w'' => ∃ sp' cap', e = .returned (.slice sp' S.length cap') ∧ OwnDg w'' w'.heap.size (.slice sp' S.length cap') S ∧ Below w'.heap.size w' w'') := fun w' hb => by
    rw [hS]; obtain ⟨h1, h2, h3⟩ := HKW.out w' hb; exact nG tx px nx cx bx qx mx dx lx w' h1.tl h1.p h1.s h2 h3
   have HCT : Hid (∀ w', Below BX w4 w' → Calls Tryz.prog 16 #[.agg (enL tx (.slice px nx cx) (.slice qx mx dx)).toArray] w' fun e w'' => ∃ sp' cap', e = .returned (.slice sp' S.length cap') ∧ OwnDg w'' w'.heap.size (.slice sp' S.length cap') S ∧ Below w'.heap.size w' w'') := fun w' hb => by
    rw [hS]; obtain ⟨h1, h2, h3⟩ := HKW.out w' hb; exact rI tx px nx cx bx qx mx dx lx w' h1.tl h1.p h1.s
   clear hv hS HKW HEV4 HQ HBc hsw HBe
   have hvv : (v != v) = false := by simp
   refine wp_region_held_drew (S := fun w' => Below BX w4 w') (by kernel_rfl) yL.out.b.drew (fun hHeld => ?_)
   refine' zk 0 rfl (v := _) (yieldsIf_load_mid (by rfl) _ _ rfl _ _ rfl _ _ ?hS0n5 Tryz.underlying25 rfl (eN _ _ _)) ?rest0n5
   case hS0n5 =>
    intro w' hSw
    exact aP (L := (enL tx (.slice px nx cx) (.slice qx mx dx))) ((hSw.block _ HLX.out).trans HX4.out)
   try simp only [Act.put, zA, zB, zC, zD, zE, zF]
   refine' zk 2 rfl (v := _) (yieldsIf_load_mid (by rfl) _ _ rfl _ _ rfl _ _ ?hS2n6 Tryz.underlying25 rfl (eN _ _ _)) ?rest2n6
   case hS2n6 =>
    intro w' hSw
    exact aP (L := (enL tx (.slice px nx cx) (.slice qx mx dx))) ((hSw.block _ HLX.out).trans HX4.out)
   try simp only [Act.put, zA, zB, zC, zD, zE, zF]
   refine zr 1 rfl (fun K hK => ?_)
   go_simp
   with_reducible refine (HCV.out _ (yL.out.drew).b).mono ?_
   rintro e v1 ⟨rfl, hb⟩
   have cX := Lib.hid (yL.out.call ((Below.refl _ _).drew.trans hb))
   clear hb
   go_wp2_with fail
   refine hK.out _ _ cX.out.b (fun hHeld => ?_); clear hK K
   refine zr 3 rfl (fun K hK => ?_)
   go_simp
   with_reducible refine (HCR.out _ (cX.out).b).mono ?_
   rintro e v2 ⟨rfl, hb⟩
   have bA := Lib.hid (cX.out.call hb)
   clear hb
   go_wp2_with fail
   refine hK.out _ _ bA.out.b (fun hHeld => ?_); clear hK K
   refine zw 4 rfl (v := ?_) ?_ ?_; rotate_left
   ·intro w' hSw; go_simp; try with_reducible rfl
   try simp only [Act.put, zA, zB, zC, zD, zE, zF]
   refine zw 5 rfl (v := ?_) ?_ ?_; rotate_left
   ·intro w' hSw; go_simp; try with_reducible rfl
   try simp only [Act.put, zA, zB, zC, zD, zE, zF]
   refine' zk 6 rfl (v := _) (yieldsIf_load_mid (by rfl) _ _ rfl _ _ rfl _ _ ?hS6n9 Tryz.underlying25 rfl (eN _ _ _)) ?rest6n9
   case hS6n9 =>
    intro w' hSw
    exact aP (L := (enL tx (.slice px nx cx) (.slice qx mx dx))) ((hSw.block _ HLX.out).trans HX4.out)
   try simp only [Act.put, zA, zB, zC, zD, zE, zF]
   refine' zk 8 rfl (v := _) (yieldsIf_load_mid (by rfl) _ _ rfl _ _ rfl _ _ ?hS8n10 Tryz.underlying25 rfl (eN _ _ _)) ?rest8n10
   case hS8n10 =>
    intro w' hSw
    exact aP (L := (enL tx (.slice px nx cx) (.slice qx mx dx))) ((hSw.block _ HLX.out).trans HX4.out)
   try simp only [Act.put, zA, zB, zC, zD, zE, zF]
   refine zr 7 rfl (fun K hK => ?_)
   go_simp
   with_reducible refine (HCS.out _ (bA.out).b).mono ?_
   rintro e v3 ⟨sp7, c7, rfl, ho7, hb⟩
   have aQ := Lib.hid (bA.out.call hb)
   have HO7v3 := Lib.hid ho7
   clear ho7
   clear hb
   go_wp2_with fail
   refine hK.out _ _ aQ.out.b (fun hHeld => ?_); clear hK K
   refine zr 9 rfl (fun K hK => ?_)
   go_simp
   with_reducible refine (HCT.out _ (aQ.out).b).mono ?_
   rintro e v4 ⟨sp9, c9, rfl, ho9, hb⟩
   have aM := Lib.hid (aQ.out.call hb)
   have NT := Lib.hid (HO7v3.out.below hb)
   have NS := Lib.hid ho9
   clear ho9
   clear hb
   go_wp2_with fail
   refine hK.out _ _ aM.out.b (fun hHeld => ?_); clear hK K
   refine zr 10 rfl (fun K hK => ?_)
   go_simp
   with_reducible refine (zX sp7 _ c7 _ sp9 _ c9 _ v4 (NT.out.up rfl) (NS.out.up rfl) HS8.out rfl).mono ?_
   rintro e v5 ⟨rfl, hb⟩
   have aJ := Lib.hid (aM.out.call hb)
   have HO7v5 := Lib.hid (NT.out.below hb)
   have HO9v5 := Lib.hid (NS.out.below hb)
   clear hb
   go_wp2_with fail
   refine hK.out _ _ aJ.out.b (fun hHeld => ?_); clear hK K
   refine zw 11 rfl (v := ?_) ?_ ?_; rotate_left
   ·intro w' hSw; go_simp; try with_reducible rfl
   try simp only [Act.put, zA, zB, zC, zD, zE, zF]
   refine zw 12 rfl (v := ?_) ?_ ?_; rotate_left
   ·intro w' hSw; go_simp; try with_reducible rfl
   try simp only [Act.put, zA, zB, zC, zD, zE, zF]
   refine zd ?_ _
   go_wp2_with fail
   go_roundw
   case rel => exact ⟨k + 1, by go_num, by omega, HR4.out.below (show Below w4.heap.size w4 v5 from by rw [← HX0.out]; exact aJ.out.b), HB4.out.trans (show Below w.heap.size w4 v5 from aJ.out.b.mono (Nat.le_of_lt HLW.out))⟩
   case measure => simp [intOf]; omega
  ·obtain rfl : k = 2 := by omega
   have hd : decide (((2 : Nat) : Int) < 2) = false := by simp
   have hkw : 1 < wr.heap.size := Nat.lt_of_lt_of_le hk0 HB.out.size
   have HA := Lib.hid (uU wr (HK.out.below HB.out hk0) hkw)
   go_wp2_with fail
   refine HA.out.mono ?_
   rintro e w9 ⟨rfl, hb⟩
   have HB9 : Hid (Below w.heap.size w w9) := HB.out.trans (hb.mono HB.out.size)
   clear hb HA
   go_wp2_with fail
   go_ret
   exact ⟨rfl, HB9.out⟩
end Go.Proofs.YtjeiiabpdoelpaaGreatDoor
