/-
  The walk of EnvelopeCounts (conditions: the argument reads as a case; the table of constants reads as it is laid).
-/
import Derived.Test.YtjeiiabpdoelpaaGreatDoorZip
import Derived.Test.YtjeiiabpdoelpaaGreatDoorEnvV
namespace Go.Proofs.YtjeiiabpdoelpaaGreatDoor
open Go.RowKit Go.Proofs.YtjeiiabpdoelpaaGreatDoor.One
def hfM (c : Int) : List Int := c :: 1 :: List.replicate 14 0
theorem hfM_ok {c : Int} (h : 0 ≤ c ∧ c < 256) : H16 (hfM c) := ⟨rfl, fun y hy => by
 simp only [hfM, List.mem_cons, List.mem_replicate] at hy
 rcases hy with rfl | rfl | ⟨_, rfl⟩ <;> omega⟩
theorem buildHM (c : Int) (w : World) : (Instr.build 37 #[(0, .int .u8 c), (1, .int .u8 1)]).run Tryz.prog w = .ok (.agg (hvA (hfM c))) w := by kernel_rfl
theorem buildSM (c : Int) (w : World) : (Instr.build 39 #[(0, .agg (hvA (hfM c)))]).run Tryz.prog w = .ok (.agg (sgA (hfM c) 0 0)) w := by kernel_rfl
theorem ca_set2 (p s : Value) (k k' y : Int) : (caA p s k y).setIfInBounds 2 (.int .i64 k') = caA p s k' y := by simp [caA, caL]
set_option maxRecDepth 100000 in
set_option maxHeartbeats 4000000 in
theorem envelopeCounts_any (sp0 : Option Addr) (n0 cap0 : Nat) (b0 : List UInt8) (sc : Option Addr) (nc cc : Nat) (sn : List UInt8) (kk yy mo : Int) (w : World) (hp0 : BSrc w w.heap.size sp0 n0 cap0 b0) (hp0n : sp0 = none → cap0 = 0) (hn0 : n0 ≤ cap0) (hs : BSrc w w.heap.size sc nc cc sn) (hyy : 0 ≤ yy ∧ yy < 256) (hmo : 0 ≤ mo ∧ mo < 256) (hk : KayIn w) (hk0 : 1 < w.heap.size) :
 Calls Tryz.prog 5 #[.agg (caA (.slice sp0 n0 cap0) (.slice sc nc cc) kk yy), .int .u8 mo] w fun e w' => e = .returned (.bool true) ∧ Below w.heap.size w w' := by
 have HP0 := Lib.hid hp0; have HP0N := Lib.hid hp0n; have HSN := Lib.hid hs; have HK := Lib.hid hk; have HY := Lib.hid hyy; have HN0 := Lib.hid hn0
 have HMO := Lib.hid (hfM_ok hmo)
 have HC := Lib.hid (heap_alloc_new w (.cells (caA (.slice sp0 n0 cap0) (.slice sc nc cc) kk yy) 27))
 clear hp0 hp0n hs hk hyy hn0 hmo
 go_enter Tryz.func5, Tryz.ntmps5
 go_upto_region 1 with fail
 generalize hw0 : World.alloc w _ = w0
 have HC0 : Hid (w0.heap[w.heap.size]? = some (.cells (caA (.slice sp0 n0 cap0) (.slice sc nc cc) kk yy) 27 (0, 0))) := by rw [← hw0]; exact HC.out
 have HB0 : Hid (Below w.heap.size w w0) := by rw [← hw0]; exact below_alloc _ _
 have hs0 : w0.heap.size = w.heap.size + 1 := by rw [← hw0]; simp
 clear hw0 HC
 have cK := ca_k HC0.out
 have fK := frozen_of_row _ _ 2 _ _ HC0.out
 go_upto_region 2 with fail
 have HC1 : Hid ((w0.setCell ⟨w.heap.size, 2, none⟩ (.int .i64 0)).heap[w.heap.size]? = some (.cells (caA (.slice sp0 n0 cap0) (.slice sc nc cc) 0 yy) 27 (0, 0))) := by
  have h := heap_setCell_same w0 w.heap.size 2 _ _ (.int .i64 0) HC0.out
  rw [ca_set2] at h
  exact h
 have HB1 : Hid (Below w.heap.size w (w0.setCell ⟨w.heap.size, 2, none⟩ (.int .i64 0))) := HB0.out.setCell (p := ⟨w.heap.size, 2, none⟩) (Nat.le_refl _) _
 have hs1 : w.heap.size < (w0.setCell ⟨w.heap.size, 2, none⟩ (.int .i64 0)).heap.size := by have := setCell_le w0 ⟨w.heap.size, 2, none⟩ (.int .i64 0); omega
 clear cK fK HC0 HB0 hs0
 generalize World.setCell w0 _ _ = w1 at *
 have HCM := Lib.hid (made_any n0 cap0 sp0 b0 sc nc cc sn 0 yy w1 ((HP0.out.below HB1.out (Nat.le_refl _)).more HB1.out.size) HP0N.out ((HSN.out.below HB1.out (Nat.le_refl _)).more HB1.out.size) HN0.out HY.out)
 clear HP0 HSN
 go_wp2_with (refine wpList_load_row rfl 27 _ rfl w.heap.size rfl 27 _ (0, 0) _ HC1.out Tryz.underlying27 rfl (infoCa _ _ _ _) ?_)
 refine HCM.out.mono ?_
 rintro e w2 ⟨⟨t, a1, n1, c1, a2, n2, c2, b', l2, rfl, hen, ht, hn1, hn2, hlt, hb, hg0, _⟩⟩
 obtain ⟨rfl, rfl, hg⟩ := hg0 rfl
 clear hg0 HCM
 have HGD := Lib.hid hg
 have HEV : Hid (EvX w2 recW a1 n1 c1 (b0.take 200) a2 n2 c2 l2) := by
  obtain ⟨⟨sp, n, cap, e1, hp, hpn⟩, ⟨sq, m, cq, e2, hs, hsn⟩⟩ := hen.out
  injection e1 with e1 e3 e4; subst e1 e3 e4
  injection e2 with e1 e3 e4; subst e1 e3 e4
  exact ⟨ht, by omega, by omega, hp, hpn, hs, hsn, fun y hy => by have := hlt y hy; omega⟩
 have HB2 : Hid (Below w.heap.size w w2) := HB1.out.trans (hb.mono (by omega))
 have hs2 : w.heap.size < w2.heap.size := by have := hb.size; omega
 clear hen hlt hb hg hs1 HC1 HB1
 obtain ⟨B0, hB0⟩ : ∃ B0, B0 = b0.take 200 := ⟨_, rfl⟩
 rw [← hB0] at HEV HGD
 clear hB0
 have HZS := Lib.hid (heap_alloc_new w2 (.cells zEn 25))
 go_upto_region 3 with (refine wpList_store_row rfl 25 _ _ rfl w2.heap.size (enA recW (.slice a1 n1 c1) (.slice a2 n2 c2)) rfl rfl 25 _ HZS.out (info_en _ _ _) rfl (one_en _ _ _ _ _ _ _) ?_; rw [setRow_new]; generalize hw4 : World.alloc w2 _ = w3; have HE3' : Hid (w3.heap[w2.heap.size]? = some (.cells (enA recW (.slice a1 n1 c1) (.slice a2 n2 c2)) 25 (0, 0))) := (by rw [← hw4]; exact heap_alloc_new _ _); have HB23 : Hid (Below w2.heap.size w2 w3) := (by rw [← hw4]; exact below_alloc _ _); have hs3 : w3.heap.size = w2.heap.size + 1 := (by rw [← hw4]; simp); clear hw4 HZS)
 obtain ⟨gE, hgE⟩ : ∃ gE, gE = w2.heap.size := ⟨_, rfl⟩
 have HE3 : Hid (w3.heap[gE]? = some (.cells (enA recW (.slice a1 n1 c1) (.slice a2 n2 c2)) 25 (0, 0))) := by rw [hgE]; exact HE3'.out
 rw [← hgE]
 have HB3 : Hid (Below w.heap.size w w3) := HB2.out.trans (HB23.out.mono (by omega))
 have HEV3 : Hid (EvX w3 recW a1 n1 c1 B0 a2 n2 c2 l2) := HEV.out.below HB23.out
 have hlE : w.heap.size < gE ∧ gE < w3.heap.size := by omega
 have HLE := Lib.hid hlE
 clear HE3' hgE HB23 hs3 HEV HB2 hs2
 have HSL : Hid ((sgrB recW B0 (l2.map pg)).length = n2) := by show _ = _; rw [HGD.out.sgr, List.length_map, List.length_map]; exact HEV3.out.s.len
 have hk3 : 1 < w3.heap.size := Nat.lt_of_lt_of_le hk0 HB3.out.size
 have HCS := Lib.hid (signers_any recW a1 n1 c1 B0 a2 n2 c2 l2 w3 HEV3.out.tl HEV3.out.p HEV3.out.s (HK.out.below HB3.out hk0) hk3)
 rw [HSL.out] at HCS
 go_wp2_with (refine wpList_load_row rfl 25 _ rfl gE rfl 25 _ (0, 0) _ HE3.out Tryz.underlying25 rfl (info_en _ _ _) ?_)
 refine HCS.out.mono ?_
 rintro e w4 ⟨sp4, cap4, rfl, _, hb⟩
 have HB4 : Hid (Below w.heap.size w w4) := HB3.out.trans (hb.mono (by omega))
 have HE4 : Hid (w4.heap[gE]? = some (.cells (enA recW (.slice a1 n1 c1) (.slice a2 n2 c2)) 25 (0, 0))) := (hb.block _ hlE.2).trans HE3.out
 have HEV4 : Hid (EvX w4 recW a1 n1 c1 B0 a2 n2 c2 l2) := HEV3.out.below hb
 have hl4 : gE < w4.heap.size := by have := hb.size; omega
 clear hb HCS HE3 HEV3 HB3 hk3 hlE
 obtain ⟨V, hV⟩ : ∃ V, V = sgnV recW B0 (l2.map pg) (hfM mo) 0 0 := ⟨_, rfl⟩
 have HVX : Hid (H16 V.x) := by rw [hV]; exact sgnV_x HMO.out
 have HVG : Hid (V.E = 0 → V.t = recW ∧ V.b = B0 ∧ V.L.length = n2 + 1 ∧ GdP recW B0 V.L) := fun h0 => by
  rw [hV] at h0 ⊢
  obtain ⟨h1, h2, h3, h4⟩ := sgnV_b h0
  exact ⟨h1, h2, by rw [h3, List.length_map, HEV4.out.s.len], h4 HGD.out⟩
 have HVD : Hid (∀ y ∈ V.L, y.l.length ≤ 1000 ∧ y.q.length ≤ 1000) := by
  rw [hV]
  refine sgnV_bnd fun y hy => ?_
  obtain ⟨z, hz, rfl⟩ := List.mem_map.1 hy
  have h1 := HEV4.out.lt z hz
  have h2 := HEV4.out.s.dat z hz
  exact ⟨by rw [show (pg z).l.length = z.n from h2.c.len]; exact h1.1, by rw [show (pg z).q.length = z.m from h2.p.len]; exact h1.2⟩
 have HSR : Hid (∀ w', EvX w' recW a1 n1 c1 B0 a2 n2 c2 l2 → Calls Tryz.prog 19 #[.agg (enA recW (.slice a1 n1 c1) (.slice a2 n2 c2)), .agg (sgA (hfM mo) 0 0)] w' (SgW V w')) := fun w' h => by
  rw [hV]; exact (rsignE_any recW a1 n1 c1 B0 a2 n2 c2 l2 (hfM mo) 0 0 w' h.tl h.p h.pn h.s h.sn HMO.out).mono fun e w'' hh => hh.W
 have HSP : Hid (∀ w', EvX w' recW a1 n1 c1 B0 a2 n2 c2 l2 → KayIn w' → 1 < w'.heap.size → Calls Tryz.prog 18 #[.agg (enA recW (.slice a1 n1 c1) (.slice a2 n2 c2)), .agg (sgA (hfM mo) 0 0)] w' (SgW V w')) := fun w' h hk hk0 => by
  rw [hV]; exact (envSign_any recW a1 n1 c1 B0 a2 n2 c2 l2 (hfM mo) 0 0 w' h.tl h.p h.pn h.s h.sn h.lt HMO.out (insN_any n2) hk hk0).mono fun e w'' hh => hh.W
 clear hV
 obtain ⟨VE, VT, VB, VL, VX, VH, VN⟩ := V
 have hbh := buildHM mo
 have hbs := buildSM mo
 go_wp2_with (refine wpList_load_row rfl 25 _ rfl gE rfl 25 _ (0, 0) _ HE4.out Tryz.underlying25 rfl (info_en _ _ _) ?_)
 refine (HSR.out w4 HEV4.out).mono ?_
 rintro e w5 ⟨x1, y1, z1, x2, y2, z2, lx, rfl, _, _, _, hb⟩
 have HB5 : Hid (Below w.heap.size w w5) := HB4.out.trans (hb.mono (by have := HLE.out; omega))
 have HE5 : Hid (w5.heap[gE]? = some (.cells (enA recW (.slice a1 n1 c1) (.slice a2 n2 c2)) 25 (0, 0))) := (hb.block _ hl4).trans HE4.out
 have HEV5 : Hid (EvX w5 recW a1 n1 c1 B0 a2 n2 c2 l2) := HEV4.out.below hb
 have hl5 : gE < w5.heap.size := by have := hb.size; omega
 clear hb HE4 HEV4 HB4 hl4
 have HTB := Lib.hid (TwoB.new w5)
 have HTB2 := Lib.hid (HTB.out.setE (enA VT (.slice x1 y1 z1) (.slice x2 y2 z2)))
 go_upto_region 5 with (first
  | (refine wpList_store_row rfl 25 _ _ rfl w5.heap.size (enA VT (.slice x1 y1 z1) (.slice x2 y2 z2)) rfl rfl 25 _ HTB.out.e (info_en _ _ _) rfl (one_en _ _ _ _ _ _ _) ?_)
  | (refine wpList_store_row rfl 39 _ _ rfl (w5.heap.size + 1) (sgA VX VH VN) rfl rfl 39 _ HTB2.out.s (info_sg HVX.out) (by rw [sgA_size zh16_H16, sgA_size HVX.out]) (one_sg _ _ _) ?_; generalize hw6 : World.setRow _ (w5.heap.size + 1) _ = w6; have HB6' : Hid (Below w5.heap.size w5 w6) := (by rw [← hw6]; exact (HTB2.out.setS (sgA VX VH VN)).b); clear hw6 HTB HTB2))
 have HB6 : Hid (Below w.heap.size w w6) := HB5.out.trans (HB6'.out.mono HB5.out.size)
 have HE6 : Hid (w6.heap[gE]? = some (.cells (enA recW (.slice a1 n1 c1) (.slice a2 n2 c2)) 25 (0, 0))) := (HB6'.out.block _ hl5).trans HE5.out
 have HEV6 : Hid (EvX w6 recW a1 n1 c1 B0 a2 n2 c2 l2) := HEV5.out.below HB6'.out
 have hl6 : gE < w6.heap.size := by have := HB6'.out.size; omega
 clear HB6' HE5 HEV5 HB5 hl5
 generalize w5.heap.size = g5 at *
 have hk6 : 1 < w6.heap.size := Nat.lt_of_lt_of_le hk0 HB6.out.size
 by_cases hE : VE = 0
 ·subst hE
  obtain ⟨rfl, rfl, hlen, hgx⟩ := HVG.out rfl
  have HGX := Lib.hid hgx; have HLN := Lib.hid hlen
  clear hgx hlen HVG
  have HCP := Lib.hid (HSP.out w6 HEV6.out (HK.out.below HB6.out hk0) hk6)
  go_wp2_with (refine wpList_load_row rfl 25 _ rfl gE rfl 25 _ (0, 0) _ HE6.out Tryz.underlying25 rfl (info_en _ _ _) ?_)
  refine HCP.out.mono ?_
  rintro e w7 ⟨x1, y1, z1, x2, y2, z2, lx, rfl, hpx, hsx, hlx, hb⟩
  have HB7 : Hid (Below w.heap.size w w7) := HB6.out.trans (hb.mono (by have := HLE.out; omega))
  have HE7 : Hid (w7.heap[gE]? = some (.cells (enA recW (.slice a1 n1 c1) (.slice a2 n2 c2)) 25 (0, 0))) := (hb.block _ hl6).trans HE6.out
  have HEV7 : Hid (EvX w7 recW a1 n1 c1 VB a2 n2 c2 l2) := HEV6.out.below hb
  have HPX := Lib.hid hpx; have HSX := Lib.hid hsx; have HLX0 := Lib.hid hlx
  have hl7 : gE < w7.heap.size := by have := hb.size; omega
  clear hb HE6 HEV6 HB6 hl6 hk6 hpx hsx hlx HCP HSR HSP
  have HTB := Lib.hid (TwoB.new w7)
  have HTB2 := Lib.hid (HTB.out.setE (enA recW (.slice x1 y1 z1) (.slice x2 y2 z2)))
  go_upto_region 8 with (first
   | (refine wpList_store_row rfl 25 _ _ rfl w7.heap.size (enA recW (.slice x1 y1 z1) (.slice x2 y2 z2)) rfl rfl 25 _ HTB.out.e (info_en _ _ _) rfl (one_en _ _ _ _ _ _ _) ?_)
   | (refine wpList_store_row rfl 39 _ _ rfl (w7.heap.size + 1) (sgA VX VH VN) rfl rfl 39 _ HTB2.out.s (info_sg HVX.out) (by rw [sgA_size zh16_H16, sgA_size HVX.out]) (one_sg _ _ _) ?_; generalize hw6 : World.setRow _ (w7.heap.size + 1) _ = w8; have HTW : Hid (TwoB w7 (enA recW (.slice x1 y1 z1) (.slice x2 y2 z2)) (sgA VX VH VN) w8) := (by rw [← hw6]; exact HTB2.out.setS (sgA VX VH VN)); clear hw6 HTB HTB2))
  obtain ⟨gX, hgX⟩ : ∃ gX, gX = w7.heap.size := ⟨_, rfl⟩
  have HX8 : Hid (w8.heap[gX]? = some (.cells (enA recW (.slice x1 y1 z1) (.slice x2 y2 z2)) 25 (0, 0))) := by rw [hgX]; exact HTW.out.e
  have hs8 := HTW.out.k
  rw [← hgX]
  have HB8 : Hid (Below w.heap.size w w8) := HB7.out.trans (HTW.out.b.mono HB7.out.size)
  have HE8 : Hid (w8.heap[gE]? = some (.cells (enA recW (.slice a1 n1 c1) (.slice a2 n2 c2)) 25 (0, 0))) := (HTW.out.b.block _ hl7).trans HE7.out
  have HEV8 : Hid (EvX w8 recW a1 n1 c1 VB a2 n2 c2 l2) := HEV7.out.below HTW.out.b
  have HPX8 : Hid (BSrc w8 w8.heap.size x1 y1 z1 VB) := (HPX.out.below HTW.out.b (Nat.le_refl _)).more HTW.out.b.size
  have HSX8 : Hid (SgsIn w8 w8.heap.size x2 y2 z2 lx) := HSX.out.up HTW.out.b (Nat.le_refl _)
  have HL8 : Hid (gX < w8.heap.size ∧ gE < w8.heap.size ∧ w.heap.size < w8.heap.size) := ⟨by omega, by omega, by have := HLE.out; omega⟩
  have HTL : Hid (recW.size ≤ maxLen) := HEV8.out.tl
  clear HTW HE7 HEV7 HB7 hgX hl7 hs8 HPX HSX
  have k1 := en_s HE8.out
  have hk8 : 1 < w8.heap.size := Nat.lt_of_lt_of_le hk0 HB8.out.size
  have HSL2 : Hid ((sgrB recW VB (lx.map pg)).length = n2 + 1) := by show _ = _; rw [HLX0.out, HGX.out.sgr, List.length_map]; exact HLN.out
  have HCX := Lib.hid (signers_any recW x1 y1 z1 VB x2 y2 z2 lx w8 HTL.out HPX8.out HSX8.out (HK.out.below HB8.out hk0) hk8)
  rw [HSL2.out] at HCX
  have HRX := Lib.hid (row_rngK (L := (enL recW (.slice x1 y1 z1) (.slice x2 y2 z2))) HX8.out)
  have q1 : IntKind.i64.wrap ((n2 : Int) + 1) = (n2 : Int) + 1 := IntWalk.i64_in _ (by have := HEV8.out.hm; omega)
  have q2 : ((n2 + 1 : Nat) : Int) = (n2 : Int) + 1 := by omega
  go_wp2_with (refine wpList_load_mid_gK (by rfl)  25 _ rfl gX 0 rfl _ _ HRX.out Tryz.underlying25 rfl (infoEnL _ _ _) ?_)
  refine HCX.out.mono ?_
  rintro e w9 ⟨sp9, cap9, rfl, _, hb⟩
  have HB9 : Hid (Below w8.heap.size w8 w9) := hb
  clear hb HCX HRX k1
  have HX9 : Hid (w9.heap[gX]? = some (.cells (enA recW (.slice x1 y1 z1) (.slice x2 y2 z2)) 25 (0, 0))) := (HB9.out.block _ HL8.out.1).trans HX8.out
  have HE9 : Hid (w9.heap[gE]? = some (.cells (enA recW (.slice a1 n1 c1) (.slice a2 n2 c2)) 25 (0, 0))) := (HB9.out.block _ HL8.out.2.1).trans HE8.out
  go_upto_region 10 with fail
  clear q1 q2
  have HBw9 : Hid (Below w.heap.size w w9) := HB8.out.trans (HB9.out.mono (Nat.le_of_lt HL8.out.2.2))
  have HEV9 : Hid (EvX w9 recW a1 n1 c1 VB a2 n2 c2 l2) := HEV8.out.below HB9.out
  have HPX9 : Hid (BSrc w9 w9.heap.size x1 y1 z1 VB) := (HPX8.out.below HB9.out (Nat.le_refl _)).more HB9.out.size
  have HSX9 : Hid (SgsIn w9 w9.heap.size x2 y2 z2 lx) := HSX8.out.up HB9.out (Nat.le_refl _)
  have HL9 : Hid (gX < w9.heap.size ∧ gE < w9.heap.size ∧ w.heap.size < w9.heap.size) := by have h1 := HB9.out.size; have h2 := HL8.out; exact ⟨by omega, by omega, by omega⟩
  clear HX8 HE8 HEV8 HPX8 HSX8 HL8 HB8 HB9 hk8
  obtain ⟨w8, hw8⟩ : ∃ w8, w8 = w9 := ⟨_, rfl⟩
  subst hw8
  obtain ⟨BX, hBX⟩ : ∃ BX, BX = w8.heap.size := ⟨_, rfl⟩
  have HX8 := HX9; have HE8 := HE9; have HB8 := HBw9
  clear HX9 HE9 HBw9
  have HLX : Hid (gX < BX ∧ gE < BX) := ⟨by rw [hBX]; exact HL9.out.1, by rw [hBX]; exact HL9.out.2.1⟩
  have HLW : Hid (w.heap.size < BX) := by show _ < _; rw [hBX]; exact HL9.out.2.2
  have HSw8 : Hid (Blks BX w8 w8 []) := Blks.start (Below.refl _ _) (Nat.le_of_eq hBX)
  have HBE := Lib.hid hBX
  clear hBX
  have HKW : Hid (∀ w', Below BX w8 w' → KayIn w' ∧ 1 < w'.heap.size) := fun w' hb => by
   have hbb : Below w.heap.size w w' := HB8.out.trans (hb.mono (Nat.le_of_lt HLW.out))
   exact ⟨HK.out.below hbb hk0, Nat.lt_of_lt_of_le hk0 hbb.size⟩
  have HCA : Hid (∀ w', Below BX w8 w' → Calls Tryz.prog 17 #[] w' fun e w'' => e = .returned (.bool true) ∧ Below w'.heap.size w' w'') := fun w' hb => awake10_any w' (HKW.out w' hb).1 (HKW.out w' hb).2
  have HCV : Hid (∀ w', Below BX w8 w' → Calls Tryz.prog 12 #[.agg (enL recW (.slice x1 y1 z1) (.slice x2 y2 z2)).toArray] w' fun e w'' => e = .returned (.bool true) ∧ Below w'.heap.size w' w'') := fun w' hb => by
   have hbx : Below w8.heap.size w8 w' := by rw [← HBE.out]; exact hb
   have h := envValid_any recW x1 y1 z1 VB x2 y2 z2 lx w' HTL.out ((HPX9.out.below hbx (Nat.le_refl _)).more hbx.size) (HSX9.out.up hbx (Nat.le_refl _)) (HKW.out w' hb).1 (HKW.out w' hb).2
   rw [HLX0.out, HGX.out.v] at h
   exact h
  have HCM : Hid (∀ w', Below BX w8 w' → Calls Tryz.prog 21 #[.string recW, .slice x1 y1 z1] w' fun e w'' => e = .returned (.agg (dgA (msgB recW VB))) ∧ Below w'.heap.size w' w'') := fun w' hb => by
   have hbx : Below w8.heap.size w8 w' := by rw [← HBE.out]; exact hb
   exact message_any recW x1 y1 z1 VB w' ((HPX9.out.below hbx (Nat.le_refl _)).more hbx.size) (HKW.out w' hb).1 (HKW.out w' hb).2
  have HCN : Hid (∀ w', Below BX w8 w' → Calls Tryz.prog 21 #[.string recW, .slice a1 n1 c1] w' fun e w'' => e = .returned (.agg (dgA (msgB recW VB))) ∧ Below w'.heap.size w' w'') := fun w' hb => by
   have hbx : Below w8.heap.size w8 w' := by rw [← HBE.out]; exact hb
   exact message_any recW a1 n1 c1 VB w' (HEV9.out.below hbx).p (HKW.out w' hb).1 (HKW.out w' hb).2
  have HMO2 := Lib.hid (msgB_ok recW VB)
  have he : ∀ w', (binOp .eql 46 (.agg (dgA (msgB recW VB))) (.agg (dgA (msgB recW VB)))).run Tryz.prog w' = .ok (.bool true) w' := fun w' => by
   have := eqlD (msgB recW VB) (msgB recW VB) HMO2.out.1 HMO2.out.1 w'
   rw [decide_eq_true rfl] at this
   exact this
  generalize dgA (msgB recW VB) = M at *
  clear HKW HPX9 HSX9 HEV9 HL9 HGX HLN HLX0 HSL2 HMO2 HTL HVX HVD HGD HSL
  refine wp_region_held_drew (S := fun w' => Below BX w8 w') (by kernel_rfl) HSw8.out.b.drew (fun hHeld => ?_)
  refine zr 0 rfl (fun K hK => ?_)
  go_simp
  with_reducible refine (HCA.out _ (HSw8.out.drew).b).mono ?_
  rintro e v1 ⟨rfl, hb⟩
  have HSv1 := Lib.hid (HSw8.out.call ((Below.refl _ _).drew.trans hb))
  clear hb
  go_wp2_with fail
  refine hK.out _ _ HSv1.out.b (fun hHeld => ?_); clear hK K
  refine zw 1 rfl (v := ?_) ?_ ?_; rotate_left
  ·intro w' hSw; go_simp; try with_reducible rfl
  try simp only [Act.put, zA, zB, zC, zD, zE, zF]
  refine' zk 2 rfl (v := _) (yieldsIf_load_mid (by rfl) _ _ rfl _ _ rfl _ _ ?hS2n2 Tryz.underlying25 rfl (infoEnL _ _ _)) ?rest2n2
  case hS2n2 =>
   intro w' hSw
   exact row_rngK (L := (enL recW (.slice x1 y1 z1) (.slice x2 y2 z2))) ((hSw.block _ HLX.out.1).trans HX8.out)
  try simp only [Act.put, zA, zB, zC, zD, zE, zF]
  refine zr 3 rfl (fun K hK => ?_)
  go_simp
  with_reducible refine (HCV.out _ (HSv1.out).b).mono ?_
  rintro e v2 ⟨rfl, hb⟩
  have HSv2 := Lib.hid (HSv1.out.call hb)
  clear hb
  go_wp2_with fail
  refine hK.out _ _ HSv2.out.b (fun hHeld => ?_); clear hK K
  refine zw 4 rfl (v := ?_) ?_ ?_; rotate_left
  ·intro w' hSw; go_simp; try with_reducible rfl
  try simp only [Act.put, zA, zB, zC, zD, zE, zF]
  refine zw 5 rfl (v := ?_) ?_ ?_; rotate_left
  ·intro w' hSw; go_simp; try with_reducible rfl
  try simp only [Act.put, zA, zB, zC, zD, zE, zF]
  refine zw 6 rfl (v := ?_) ?_ ?_; rotate_left
  ·intro w' hSw; go_simp; try with_reducible rfl
  try simp only [Act.put, zA, zB, zC, zD, zE, zF]
  refine zw 7 rfl (v := ?_) ?_ ?_; rotate_left
  ·intro w' hSw; have k1 := en_t ((hSw.block _ HLX.out.1).trans HX8.out); go_simp; try with_reducible rfl
  try simp only [Act.put, zA, zB, zC, zD, zE, zF]
  refine zw 8 rfl (v := ?_) ?_ ?_; rotate_left
  ·intro w' hSw; go_simp; try with_reducible rfl
  try simp only [Act.put, zA, zB, zC, zD, zE, zF]
  refine zw 9 rfl (v := ?_) ?_ ?_; rotate_left
  ·intro w' hSw; have k1 := en_p ((hSw.block _ HLX.out.1).trans HX8.out); go_simp; try with_reducible rfl
  try simp only [Act.put, zA, zB, zC, zD, zE, zF]
  refine zw 11 rfl (v := ?_) ?_ ?_; rotate_left
  ·intro w' hSw; go_simp; try with_reducible rfl
  try simp only [Act.put, zA, zB, zC, zD, zE, zF]
  refine zw 12 rfl (v := ?_) ?_ ?_; rotate_left
  ·intro w' hSw; have k1 := en_t ((hSw.block _ HLX.out.2).trans HE8.out); go_simp; try with_reducible rfl
  try simp only [Act.put, zA, zB, zC, zD, zE, zF]
  refine zw 13 rfl (v := ?_) ?_ ?_; rotate_left
  ·intro w' hSw; go_simp; try with_reducible rfl
  try simp only [Act.put, zA, zB, zC, zD, zE, zF]
  refine zw 14 rfl (v := ?_) ?_ ?_; rotate_left
  ·intro w' hSw; have k1 := en_p ((hSw.block _ HLX.out.2).trans HE8.out); go_simp; try with_reducible rfl
  try simp only [Act.put, zA, zB, zC, zD, zE, zF]
  refine zr 10 rfl (fun K hK => ?_)
  go_simp
  with_reducible refine (HCM.out _ (HSv2.out).b).mono ?_
  rintro e v3 ⟨rfl, hb⟩
  have HSv3 := Lib.hid (HSv2.out.call hb)
  clear hb
  go_wp2_with fail
  refine hK.out _ _ HSv3.out.b (fun hHeld => ?_); clear hK K
  refine zr 15 rfl (fun K hK => ?_)
  go_simp
  with_reducible refine (HCN.out _ (HSv3.out).b).mono ?_
  rintro e v4 ⟨rfl, hb⟩
  have HSv4 := Lib.hid (HSv3.out.call hb)
  clear hb
  go_wp2_with fail
  refine hK.out _ _ HSv4.out.b (fun hHeld => ?_); clear hK K
  refine zw 16 rfl (v := ?_) ?_ ?_; rotate_left
  ·intro w' hSw; go_simp; try with_reducible rfl
  try simp only [Act.put, zA, zB, zC, zD, zE, zF]
  refine zw 17 rfl (v := ?_) ?_ ?_; rotate_left
  ·intro w' hSw; go_simp; try with_reducible rfl
  try simp only [Act.put, zA, zB, zC, zD, zE, zF]
  refine zw 18 rfl (v := ?_) ?_ ?_; rotate_left
  ·intro w' hSw; go_simp; try with_reducible rfl
  try simp only [Act.put, zA, zB, zC, zD, zE, zF]
  refine zd ?_ _
  go_wp2_with fail
  go_ret
  exact ⟨rfl, HB8.out.trans (show Below w.heap.size w8 v4 from HSv4.out.b.mono (Nat.le_of_lt HLW.out))⟩
 ·have hq : (VE == 0) = false := by simpa using hE
  have HA := Lib.hid (awake10_any w6 (HK.out.below HB6.out hk0) hk6)
  go_wp2_with fail
  refine HA.out.mono ?_
  rintro e w9 ⟨rfl, hb⟩
  have HB9 : Hid (Below w.heap.size w w9) := HB6.out.trans (hb.mono HB6.out.size)
  clear hb HA
  go_wp2_with fail
  go_ret
  exact ⟨rfl, HB9.out⟩
end Go.Proofs.YtjeiiabpdoelpaaGreatDoor
