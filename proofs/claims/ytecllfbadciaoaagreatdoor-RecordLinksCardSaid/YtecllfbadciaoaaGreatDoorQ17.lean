/-
  The walk of RecordLinks (conditions: the record and the tape stand in memory; the table of powers of ten reads as it is laid).
-/
import Derived.Test.YtecllfbadciaoaaGreatDoorZip
import Derived.Test.YtecllfbadciaoaaGreatDoorRecV
import Derived.Test.YtecllfbadciaoaaGreatDoorQ16
import Derived.Deep.Slices
import Derived.ProofKit
import Derived.OpenShut
import Derived.ShutString
import Derived.ChangeOld
import Derived.SliceStrings
set_option maxRecDepth 100000
set_option maxHeartbeats 8000000
namespace Go.Proofs.YtecllfbadciaoaaGreatDoor
open Go.RowKit
theorem snap_of_vld {l : List En} (h : vldE l = true) : Snap l := by
 refine ⟨(vldE_parts h).2.1, fun x hx => ?_, (vldE_parts h).2.2⟩
 unfold vldE at h
 rw [Bool.and_eq_true, Bool.and_eq_true, Bool.not_eq_true', List.any_eq_false] at h
 have := h.1.2 x hx
 unfold badE at this
 simp at this
 exact this.2
theorem diff_plain (a b : List En) : ((vC (sDiff a b)).2 = 0 ∧ vE (sApply a (vC (sDiff a b)).1) = (b, 0)) ∨ (vC (sDiff a b)).2 = 1 := by
 by_cases h : (vldE a && vldE b) = true
 ·left
  rw [Bool.and_eq_true] at h
  have e : sDiff a b = .ok (cdif a b) := by unfold sDiff; rw [h.1, h.2]; rfl
  rw [e]
  refine ⟨rfl, ?_⟩
  show vE (sApply a (cdif a b)) = _
  rw [sApply_snap (snap_of_vld h.1) (snap_of_vld h.2) (vldE_parts h.1).1 (vldE_parts h.2).1]
  rfl
 ·right
  unfold sDiff
  rw [if_neg h]
  rfl
theorem sameLinkR_any (s : ByteArray) (p1 : Option Addr) (n1 c1 : Nat) (a : List En) (p2 : Option Addr) (n2 c2 : Nat) (b : List En) (q1 : Option Addr) (d1 : Nat) (q2 : Option Addr) (d2 : Nat) (w : World)
 (h1 : EnsIn w w.heap.size p1 n1 c1 a) (h2 : EnsIn w w.heap.size p2 n2 c2 b) (h3 : EnsIn w w.heap.size q1 n1 d1 a) (h4 : EnsIn w w.heap.size q2 n2 d2 b) (hn1 : n1 ≤ 1000) (hn2 : n2 ≤ 1000) :
 Calls Tryz.prog 18 #[.agg (lkL s (.slice p1 n1 c1) (.slice p2 n2 c2)).toArray, .agg (lkL s (.slice q1 n1 d1) (.slice q2 n2 d2)).toArray] w fun e w' => e = .returned (.bool true) ∧ Below w.heap.size w w' := by
 have hb0 : Below w.heap.size w (w.alloc (.cells (lkL s (.slice p1 n1 c1) (.slice p2 n2 c2)).toArray 46)) := (Below.refl _ _).alloc (Nat.le_refl _) _
 have hr0 : (w.alloc (.cells (lkL s (.slice p1 n1 c1) (.slice p2 n2 c2)).toArray 46)).heap[w.heap.size]? = some (.cells (lkL s (.slice p1 n1 c1) (.slice p2 n2 c2)).toArray 46 (0, 0)) := heap_alloc_new _ _
 have hlt : w.heap.size < (w.alloc (.cells (lkL s (.slice p1 n1 c1) (.slice p2 n2 c2)).toArray 46)).heap.size := by simp
 have HB0 := zh hb0; have HR0 := zh hr0; have HLT := zh hlt
 clear hb0 hr0 hlt
 have H1 := zh h1; have H2 := zh h2; have H3 := zh h3; have H4 := zh h4
 clear h1 h2 h3 h4
 go_enter Tryz.func18, Tryz.ntmps18
 go_upto_region 1 with fail
 have hsz : (World.alloc w (.cells (lkL s (.slice p1 n1 c1) (.slice p2 n2 c2)).toArray 46)).heap.size = w.heap.size + 1 := by simp
 generalize World.alloc w (.cells (lkL s (.slice p1 n1 c1) (.slice p2 n2 c2)).toArray 46) = w0 at *
 have HB1' : Hid (Below w0.heap.size w0 (w0.alloc (.cells (lkL s (.slice q1 n1 d1) (.slice q2 n2 d2)).toArray 46))) := (Below.refl _ _).alloc (Nat.le_refl _) _
 have HR1' : Hid ((w0.alloc (.cells (lkL s (.slice q1 n1 d1) (.slice q2 n2 d2)).toArray 46)).heap[w0.heap.size]? = some (.cells (lkL s (.slice q1 n1 d1) (.slice q2 n2 d2)).toArray 46 (0, 0))) := heap_alloc_new _ _
 have HG1' : Hid (w0.heap.size < (w0.alloc (.cells (lkL s (.slice q1 n1 d1) (.slice q2 n2 d2)).toArray 46)).heap.size) := by show _ < _; simp
 generalize World.alloc w0 (.cells (lkL s (.slice q1 n1 d1) (.slice q2 n2 d2)).toArray 46) = w1 at *
 have HRA : Hid (w1.heap[w.heap.size]? = some (.cells (lkL s (.slice p1 n1 c1) (.slice p2 n2 c2)).toArray 46 (0, 0))) := (HB1'.out.block _ HLT.out).trans HR0.out
 have HB1 : Hid (Below w.heap.size w w1) := HB0.out.trans (HB1'.out.mono HB0.out.size)
 have HLT1 : Hid (w.heap.size < w1.heap.size) := Nat.lt_of_lt_of_le HLT.out HB1'.out.size
 obtain ⟨g0, hg0⟩ : ∃ g0, g0 = w0.heap.size := ⟨_, rfl⟩
 rw [← hg0] at HR1' HG1'
 rw [hsz] at hg0
 rw [← hg0]
 clear hg0 hsz HB1' HR0 HLT HB0
 have a0 : w1.cell? ⟨w.heap.size, 0, none⟩ = some (.string s) := heap_cellR HRA.out rfl
 have a1 : w1.cell? ⟨w.heap.size, 1, none⟩ = some (.slice p1 n1 c1) := heap_cellR HRA.out rfl
 have b0 : w1.cell? ⟨g0, 0, none⟩ = some (.string s) := heap_cellR HR1'.out rfl
 have b1 : w1.cell? ⟨g0, 1, none⟩ = some (.slice q1 n1 d1) := heap_cellR HR1'.out rfl
 have HS1 := zh (sameE_any p1 n1 c1 a q1 n1 d1 a w1 (H1.out.upR HB1.out) (H3.out.upR HB1.out) (by omega))
 have hda : decide (a = a) = true := decide_eq_true rfl
 rw [hda] at HS1
 go_wp2_with fail
 refine HS1.out.mono ?_
 rintro e w2 ⟨rfl, hb⟩
 have HB2 : Hid (Below w.heap.size w w2) := HB1.out.trans (hb.mono HB1.out.size)
 have a2 : w2.cell? ⟨w.heap.size, 2, none⟩ = some (.slice p2 n2 c2) := heap_cellR ((hb.block _ HLT1.out).trans HRA.out) rfl
 have b2 : w2.cell? ⟨g0, 2, none⟩ = some (.slice q2 n2 d2) := heap_cellR ((hb.block _ HG1'.out).trans HR1'.out) rfl
 have HS2 := zh (sameE_any p2 n2 c2 b q2 n2 d2 b w2 (H2.out.upR HB2.out) (H4.out.upR HB2.out) (by omega))
 have hdb : decide (b = b) = true := decide_eq_true rfl
 rw [hdb] at HS2
 clear hb HS1 a0 a1 b0 b1 hda hdb HRA HR1' HB1
 go_wp2_with fail
 refine HS2.out.mono ?_
 rintro e w3 ⟨rfl, hb⟩
 have HB3 : Hid (Below w.heap.size w w3) := HB2.out.trans (hb.mono HB2.out.size)
 clear hb HS2 a2 b2
 go_wp2_with fail
 go_ret
 exact ⟨rfl, HB3.out⟩
theorem recordLinks_any (raw : Rc) (tsp : Option Addr) (tn tcap : Nat) (tl : List Int) (w : World) (hx : RcAt raw w) (ht : TapeIn w tsp tn tcap tl) (hp : Lib.TabIs Tryz.prog w "internal/strconv.uint64pow10" .u64 Lib.pow10Tab) (hg : 1 < w.heap.size) :
 Calls Tryz.prog 5 #[.agg raw.L.toArray, .slice tsp tn tcap] w fun e w' => e = .returned (.bool true) ∧ Below w.heap.size w w' := by
 have hb0 : Below w.heap.size w (w.alloc (.cells raw.L.toArray 31)) := (Below.refl _ _).alloc (Nat.le_refl _) _
 have HR0 : Hid ((w.alloc (.cells raw.L.toArray 31)).heap[w.heap.size]? = some (.cells raw.L.toArray 31 (0, 0))) := heap_alloc_new _ _
 have HX0 := zh (hx.below hb0); have HT0 := zh (ht.below hb0); have HB0 := zh hb0
 have HP := zh hp; have HG := zh hg
 clear hx ht hb0 hp hg
 go_enter Tryz.func5, Tryz.ntmps5
 go_upto_region 1 with fail
 generalize World.alloc w _ = w0 at *
 have HRS := zh (records_any raw tsp tn tcap tl w0 HX0.out HT0.out)
 clear HX0 HT0
 go_wp2_with (refine wpList_load_row rfl 31 _ rfl w.heap.size rfl 31 _ (0, 0) _ HR0.out Tryz.underlying31 rfl (infoRcA raw) ?_)
 refine HRS.out.mono ?_
 rintro e w1 ⟨sp, n, cap, l, rfl, hin, hn3, hb⟩
 have HIN := zh hin
 have HB1 : Hid (Below w.heap.size w w1) := HB0.out.trans (hb.mono HB0.out.size)
 clear hin hb HRS HR0 HB0
 go_wp2_with fail
 go_loopw [18] (fun i wr => ∃ k : Nat, i = .int .i64 k ∧ k ≤ n ∧ Hid (RcsIn wr sp n cap l) ∧ Hid (Below w.heap.size w wr)) (fun i _ => n - (intOf i).toNat)
 case atStart => exact ⟨0, rfl, by omega, HIN.out, HB1.out⟩
 case round =>
  obtain ⟨k, rfl, hk2, HI, HB⟩ := hrel
  clear HIN HB1
  by_cases hlt : k < n
  ·have hd : decide ((k : Int) < (n : Int)) = true := by simp; omega
   obtain ⟨b, off, rfl, hbl, hcap, hcell⟩ := HI.out.cells (by omega)
   have hkl : k < l.length := by have := HI.out.len; omega
   obtain ⟨x, hxk⟩ : ∃ x, l[k]? = some x := ⟨_, List.getElem?_eq_getElem hkl⟩
   have HROW := zh (hcell k x hxk)
   have HXI := zh (HI.out.recs x (List.mem_of_getElem? hxk))
   have HLM : Hid (x.mn ≤ 1000 ∧ x.pn ≤ 1000) := HXI.out.b.2.2.2.2.2
   clear hcell hkl hxk hbl hcap
   have p1 : (0 : Int) ≤ (k : Int) := by omega
   have p2 : (k : Int) < (n : Int) := by omega
   have HZS := zh (heap_alloc_new wr (.cells zRc 31))
   go_upto_region 4 with (first
    | (refine wpList_load_mid rfl 31 _ rfl b (off + k * 8) rfl _ _ HROW.out Tryz.underlying31 rfl (infoRc x) ?_)
    | (refine wpList_store_row rfl 31 _ _ rfl wr.heap.size x.L.toArray rfl rfl 31 _ HZS.out (infoRcA x) rfl (oneRc x) ?_; rw [setRow_new]; have HBr4 : Hid (Below wr.heap.size wr (wr.alloc (.cells x.L.toArray 31))) := (Below.refl _ _).alloc (Nat.le_refl _) _; have HX4 : Hid ((wr.alloc (.cells x.L.toArray 31)).heap[wr.heap.size]? = some (.cells x.L.toArray 31 (0, 0))) := heap_alloc_new _ _; clear HZS; generalize World.alloc wr (.cells x.L.toArray 31) = w4 at *))
   clear p1 p2
   obtain ⟨gX, hgX⟩ : ∃ gX, gX = wr.heap.size := ⟨_, rfl⟩
   have HGE : Hid (w.heap.size ≤ gX) := by show _ ≤ _; rw [hgX]; exact HB.out.size
   rw [← hgX] at HX4
   rw [← hgX]
   have HLX4 : Hid (gX < w4.heap.size) := (Array.getElem?_eq_some_iff.1 HX4.out).1
   have HXI4 : Hid (RcIn x w4) := HXI.out.below HBr4.out
   have HIN4 : Hid (RcsIn w4 (some ⟨b, off, none⟩) n cap l) := HI.out.up HBr4.out
   have HB4 : Hid (Below w.heap.size w w4) := HB.out.trans (HBr4.out.mono HB.out.size)
   clear hgX HBr4 HROW HXI HI HB
   have HKL := zh (linkR_any x w4 HXI4.out)
   go_wp2_with (refine wpList_load_row rfl 31 _ rfl gX rfl 31 _ (0, 0) _ HX4.out Tryz.underlying31 rfl (infoRcA x) ?_)
   refine HKL.out.mono ?_
   rintro e w5 ⟨p1, k1, p2, k2, rfl, he1, he2, hb5⟩
   have HE5 := zh (And.intro he1.out he2.out); have HB45 := zh hb5
   clear he1 he2 hb5 HKL
   have HZL := zh (heap_alloc_new w5 (.cells zLk 46))
   go_upto_region 5 with (refine wpList_store_row rfl 46 _ _ rfl w5.heap.size (lkL x.stp (.slice p1 x.mn k1) (.slice p2 x.pn k2)).toArray rfl rfl 46 _ HZL.out (infoLkA _ _ _) rfl (oneLk _ _ _ _ _ _ _) ?_; rw [setRow_new]; have HB56 : Hid (Below w5.heap.size w5 (w5.alloc (.cells (lkL x.stp (.slice p1 x.mn k1) (.slice p2 x.pn k2)).toArray 46))) := (Below.refl _ _).alloc (Nat.le_refl _) _; have HL6 : Hid ((w5.alloc (.cells (lkL x.stp (.slice p1 x.mn k1) (.slice p2 x.pn k2)).toArray 46)).heap[w5.heap.size]? = some (.cells (lkL x.stp (.slice p1 x.mn k1) (.slice p2 x.pn k2)).toArray 46 (0, 0))) := heap_alloc_new _ _; clear HZL; generalize World.alloc w5 (.cells (lkL x.stp (.slice p1 x.mn k1) (.slice p2 x.pn k2)).toArray 46) = w6 at *)
   have HE6 : Hid (EnsIn w6 w6.heap.size p1 x.mn k1 x.m ∧ EnsIn w6 w6.heap.size p2 x.pn k2 x.p) := ⟨HE5.out.1.upR HB56.out, HE5.out.2.upR HB56.out⟩
   obtain ⟨gL, hgL⟩ : ∃ gL, gL = w5.heap.size := ⟨_, rfl⟩
   have HB46 : Hid (Below w4.heap.size w4 w6) := HB45.out.trans (HB56.out.mono HB45.out.size)
   have HGL : Hid (w4.heap.size ≤ gL) := by show _ ≤ _; rw [hgL]; exact HB45.out.size
   rw [← hgL] at HL6
   rw [← hgL]
   have HLL6 : Hid (gL < w6.heap.size) := (Array.getElem?_eq_some_iff.1 HL6.out).1
   clear hgL HB45 HB56 HE5
   have HCH := zh (changesR_any x.stp p1 x.mn k1 x.m p2 x.pn k2 x.p w6 HE6.out.1 HE6.out.2 (by have := HLM.out.1; omega) (by have := HLM.out.2; omega))
   have HSH := zh (sDiff_short x.m x.p)
   have HDP := zh (diff_plain x.m x.p)
   obtain ⟨r, hr⟩ : ∃ r, r = vC (sDiff x.m x.p) := ⟨_, rfl⟩
   have HRC := zh (fun (q1 : Option Addr) (d1 : Nat) (q2 : Option Addr) (d2 : Nat) (w' : World) (h1 : EnsIn w' w'.heap.size q1 x.mn d1 x.m) (h2 : EnsIn w' w'.heap.size q2 x.pn d2 x.p) => rchangesR_any x.stp q1 x.mn d1 x.m q2 x.pn d2 x.p w' h1 h2 (by have := HLM.out.1; omega) (by have := HLM.out.2; omega))
   rw [← hr] at HCH HSH HDP HRC
   clear hr
   go_wp2_with (refine wpList_load_row rfl 46 _ rfl gL rfl 46 _ (0, 0) _ HL6.out Tryz.underlying46 rfl (infoLkA _ _ _) ?_)
   refine HCH.out.mono ?_
   rintro e w7 ⟨sd, nd, cd, rfl, hcg, hb7⟩
   have HC7 := hcg; have HB67 := zh hb7
   have HB47 : Hid (Below w4.heap.size w4 w7) := HB46.out.trans (HB67.out.mono HB46.out.size)
   have HX7 : Hid (w7.heap[gX]? = some (.cells x.L.toArray 31 (0, 0))) := (HB47.out.block _ HLX4.out).trans HX4.out
   have HKR := zh (rlinkR_any x w7 (HXI4.out.below HB47.out))
   clear hcg hb7 HCH HB46
   go_upto_region 6 with fail
   go_wp2_with (refine wpList_load_row rfl 31 _ rfl gX rfl 31 _ (0, 0) _ HX7.out Tryz.underlying31 rfl (infoRcA x) ?_)
   refine HKR.out.mono ?_
   rintro e w8 ⟨q1, d1, q2, d2, rfl, he1, he2, hb8⟩
   have HB78 := zh hb8
   have HRH := zh (HRC.out q1 d1 q2 d2 w8 he1.out he2.out)
   have HC8 : Hid (CgsIn w8 w8.heap.size sd nd cd r.1) := HC7.out.up HB78.out (Nat.le_refl _)
   clear hb8 HKR he1 he2 HRC HC7
   go_wp2_with fail
   refine HRH.out.mono ?_
   rintro e w9 ⟨sf, nf, cf, rfl, hcg, hb9⟩
   have HC9 : Hid (CgsIn w9 w9.heap.size sd nd cd r.1) := HC8.out.up hb9 (Nat.le_refl _)
   have HF9 := hcg
   have HB69 : Hid (Below w6.heap.size w6 w9) := (HB67.out.trans (HB78.out.mono HB67.out.size)).trans (hb9.mono (Nat.le_trans HB67.out.size HB78.out.size))
   have HB49 : Hid (Below w4.heap.size w4 w9) := (HB47.out.trans (HB78.out.mono HB47.out.size)).trans (hb9.mono (Nat.le_trans HB47.out.size HB78.out.size))
   have HE9 : Hid (EnsIn w9 w9.heap.size p1 x.mn k1 x.m ∧ EnsIn w9 w9.heap.size p2 x.pn k2 x.p) := ⟨HE6.out.1.upR HB69.out, HE6.out.2.upR HB69.out⟩
   have HL9 : Hid (w9.heap[gL]? = some (.cells (lkL x.stp (.slice p1 x.mn k1) (.slice p2 x.pn k2)).toArray 46 (0, 0))) := (HB69.out.block _ HLL6.out).trans HL6.out
   have HX9 : Hid (w9.heap[gX]? = some (.cells x.L.toArray 31 (0, 0))) := (HB49.out.block _ HLX4.out).trans HX4.out
   have HXI9 : Hid (RcIn x w9) := HXI4.out.below HB49.out
   have HIN9 : Hid (RcsIn w9 (some ⟨b, off, none⟩) n cap l) := HIN4.out.up HB49.out
   have HB9 : Hid (Below w.heap.size w w9) := HB4.out.trans (HB49.out.mono HB4.out.size)
   obtain ⟨BX, hX⟩ : ∃ BX, BX = w9.heap.size := ⟨_, rfl⟩
   have HX0 := zh hX
   have HLX : Hid (gX < BX ∧ gL < BX) := by show _ ∧ _; rw [hX]; exact ⟨(Array.getElem?_eq_some_iff.1 HX9.out).1, (Array.getElem?_eq_some_iff.1 HL9.out).1⟩
   have HSw9 : Hid (Blks BX w9 w9 []) := Blks.start (Below.refl _ _) (Nat.le_of_eq hX)
   have HCL : Hid (∀ w', Below BX w9 w' → Calls Tryz.prog 17 #[.agg x.L.toArray] w' (LkAns x w')) := fun w' hb => rlinkR_any x w' (HXI9.out.below (by rw [← HX0.out]; exact hb))
   have HKE : Hid (∀ w', Below BX w9 w' → EnsIn w' w'.heap.size p1 x.mn k1 x.m ∧ EnsIn w' w'.heap.size p2 x.pn k2 x.p) := fun w' hb => ⟨HE9.out.1.upR (by rw [← HX0.out]; exact hb), HE9.out.2.upR (by rw [← HX0.out]; exact hb)⟩
   have hdr : decide (r.1 = r.1) = true := decide_eq_true rfl
   have HCS : Hid (∀ w', Below BX w9 w' → Calls Tryz.prog 19 #[.slice sd nd cd, .slice sf nf cf] w' fun e w'' => e = .returned (.bool true) ∧ Below w'.heap.size w' w'') := fun w' hb => by
    rw [← hdr]
    exact sameC_any sd nd cd r.1 sf nf cf r.1 w' (HC9.out.up (by rw [← HX0.out]; exact hb) (Nat.le_refl _)) (HF9.out.up (by rw [← HX0.out]; exact hb) (Nat.le_refl _)) (by have := HC9.out.len; have := HSH.out; omega)
   clear hX hcg hb9 HRH HC8 HB69 HB78 HB67 HB47 HE6 HL6 HLL6 HX7 HIN4 HB4 HXI4 HX4 HLX4 HB49 HGL hdr
   go_upto_region 7 with fail
   go_cut [50] (fun s50 wx => s50 = .bool false ∧ Hid (Below BX w9 wx))
   case first =>
    as_aux_lemma =>
     refine wp_region_held_drew (S := fun w' => Below BX w9 w') (by kernel_rfl) HSw9.out.b.drew (fun hHeld => ?_)
     refine' zk 0 rfl (v := _) (yieldsIf_load_mid (by rfl) _ _ rfl _ _ rfl _ _ ?hS0n1 Tryz.underlying46 rfl (infoLk _ _ _)) ?rest0n1
     case hS0n1 =>
      intro w' hSw
      exact row_rngR (L := (lkL x.stp (.slice p1 x.mn k1) (.slice p2 x.pn k2))) ((hSw.block _ HLX.out.2).trans HL9.out)
     try simp only [Act.put, zuA, zuB, zuC, zuD, zuY, zuF]
     refine' zk 1 rfl (v := _) (yieldsIf_load_mid (by rfl) _ _ rfl _ _ rfl _ _ ?hS1n2 Tryz.underlying31 rfl (infoRc x)) ?rest1n2
     case hS1n2 =>
      intro w' hSw
      exact row_rngR (L := x.L) ((hSw.block _ HLX.out.1).trans HX9.out)
     try simp only [Act.put, zuA, zuB, zuC, zuD, zuY, zuF]
     refine zr 2 rfl (fun K hK => ?_)
     go_simp
     with_reducible refine (HCL.out _ (HSw9.out.drew).b).mono ?_
     rintro e v1 ⟨q1, d1, q2, d2, rfl, he1, he2, hb⟩
     have HSv1 := zh (HSw9.out.call ((Below.refl _ _).drew.trans hb))
     have HEav1 := zh (EnX.of he1.out)
     have HEbv1 := zh (EnX.of he2.out)
     clear he1 he2
     clear hb
     go_wp2_with fail
     refine hK.out _ _ HSv1.out.b fun _ => ?_; clear hK K
     refine zr 3 rfl (fun K hK => ?_)
     go_simp
     with_reducible refine (sameLinkR_any x.stp p1 x.mn k1 x.m p2 x.pn k2 x.p q1 d1 q2 d2 _ (HKE.out _ (HSv1.out).b).1 (HKE.out _ (HSv1.out).b).2 HEav1.out.i HEbv1.out.i HLM.out.1 HLM.out.2).mono ?_
     rintro e v2 ⟨rfl, hb⟩
     have HSv2 := zh (HSv1.out.call hb)
     have HEav2 := zh (HEav1.out.below hb)
     have HEbv2 := zh (HEbv1.out.below hb)
     clear hb
     go_wp2_with fail
     refine hK.out _ _ HSv2.out.b fun _ => ?_; clear hK K
     refine zv 4 rfl ?_
     refine zv 5 rfl ?_
     refine zv 6 rfl ?_
     refine zv 7 rfl ?_
     refine zv 8 rfl ?_
     refine zv 9 rfl ?_
     refine zv 10 rfl ?_
     refine zv 11 rfl ?_
     refine zv 12 rfl ?_
     refine zr 13 rfl (fun K hK => ?_)
     go_simp
     with_reducible refine (HCS.out _ (HSv2.out).b).mono ?_
     rintro e v3 ⟨rfl, hb⟩
     have HSv3 := zh (HSv2.out.call hb)
     have HEav3 := zh (HEav2.out.below hb)
     have HEbv3 := zh (HEbv2.out.below hb)
     clear hb
     go_wp2_with fail
     refine hK.out _ _ HSv3.out.b fun _ => ?_; clear hK K
     refine zv 14 rfl ?_
     refine zv 15 rfl ?_
     refine zd ?_ _
     go_wp2_with fail
     go_meet
     exact ⟨rfl, HSv3.out.b⟩
   case rest =>
   obtain ⟨rfl, HBc⟩ := hcut
   have HBC : Hid (Below w9.heap.size w9 wc) := by rw [← HX0.out]; exact HBc.out
   have HXC : Hid (wc.heap[gX]? = some (.cells x.L.toArray 31 (0, 0))) := (HBc.out.block _ HLX.out.1).trans HX9.out
   have HXIC : Hid (RcIn x wc) := HXI9.out.below HBC.out
   have HINC : Hid (RcsIn wc (some ⟨b, off, none⟩) n cap l) := HIN9.out.up HBC.out
   have HBWC : Hid (Below w.heap.size w wc) := HB9.out.trans (HBC.out.mono HB9.out.size)
   have HCC : Hid (CgsIn wc wc.heap.size sd nd cd r.1) := HC9.out.up HBC.out (Nat.le_refl _)
   clear HX9 HXI9 HIN9 HB9 HC9 HF9 HKE HCL HCS HSw9 HE9 HL9 HBc HBC
   rcases HDP.out with ⟨h0, hap⟩ | h1
   ·have HAP := zh hap
    have c6 : wc.cell? ⟨gX, 6, none⟩ = some (.slice x.m1 x.mn x.mc) := heap_cellR HXC.out rfl
    have HA := zh ((Apply_any x.m1 x.mn x.mc x.m sd nd cd r.1 wc HXIC.out.m HCC.out (by have := HLM.out.1; omega) (by have := HCC.out.len; have := HSH.out; omega)).mono fun e w' h => h.uni)
    rw [hap] at HA
    rw [h0]
    clear hap h0 HDP
    go_wp2_with fail
    refine HA.out.mono ?_
    rintro e wd ⟨sa, na, ca, rfl, hen, hb⟩
    have HEN := zh hen; have HBD := zh hb
    have c7 : wd.cell? ⟨gX, 7, none⟩ = some (.slice x.p1 x.pn x.pc) := heap_cellR ((HBD.out.block _ (Array.getElem?_eq_some_iff.1 HXC.out).1).trans HXC.out) rfl
    have HSE := zh (sameE_any sa na ca x.p x.p1 x.pn x.pc x.p wd HEN.out (HXIC.out.p.upR HBD.out) (by have h1 := HEN.out.len; have h2 := HXIC.out.p.len; have h3 := HLM.out.2; omega))
    have hdp : decide (x.p = x.p) = true := decide_eq_true rfl
    rw [hdp] at HSE
    clear hen hb HA hdp c6
    go_wp2_with fail
    refine HSE.out.mono ?_
    rintro e we ⟨rfl, hb⟩
    have HBE := zh (HBD.out.trans (hb.mono HBD.out.size))
    clear hb HSE HBD HEN c7
    go_wp2_with fail
    go_roundw
    case rel => exact ⟨k + 1, by go_num, by omega, HINC.out.up HBE.out, HBWC.out.trans (HBE.out.mono HBWC.out.size)⟩
    case measure => simp [intOf]; omega
   ·rw [h1]
    clear h1 HDP
    go_wp2_with fail
    go_roundw
    case rel => exact ⟨k + 1, by go_num, by omega, HINC.out, HBWC.out⟩
    case measure => simp [intOf]; omega
  ·obtain rfl : k = n := by omega
   have hd : decide ((k : Int) < (k : Int)) = false := by simp
   have HA := zh (awake12_any wr (tabIs_belowR HP.out HB.out HG.out) (Nat.lt_of_lt_of_le HG.out HB.out.size))
   go_wp2_with fail
   refine HA.out.mono ?_
   rintro e w9 ⟨rfl, hb⟩
   have HB9 : Hid (Below w.heap.size w w9) := HB.out.trans (hb.mono HB.out.size)
   clear hb HA
   go_wp2_with fail
   go_ret
   exact ⟨rfl, HB9.out⟩
theorem recordLinks_args (raw : Rc) (tsp : Option Addr) (tn tcap : Nat) (tl : List Int) (w : World) (hx : RcAt raw w) (ht : IntsT w w.heap.size tsp tn tcap tl) (hp : Lib.TabIs Tryz.prog w "internal/strconv.uint64pow10" .u64 Lib.pow10Tab) (hg : 1 < w.heap.size) :
 Calls Tryz.prog 5 #[.agg raw.L.toArray, .slice tsp tn tcap] w fun e w' => e = .returned (.bool true) ∧ Below w.heap.size w w' :=
 recordLinks_any raw tsp tn tcap tl w hx ⟨ht.len, ht.cells, ht.wide, ht.short⟩ hp hg
end Go.Proofs.YtecllfbadciaoaaGreatDoor
namespace Go.Proofs.YtecllfbadciaoaaGreatDoor
open Go.ChangeShapes Go.WideShapes Go.ChangeAt Go.RowKit
theorem digest_cellsD {H : Type} {enc : TypeId × Value → H} {W : World} {base fuel : Nat} {spare : Nat → Bool} {held : Bool} {cs : List Value} {x : DataW H × List MemPlace}
 (h : DataW.trod enc Tryz.prog W base spare held fuel 80 cs = some x) : ∃ L : List Int, cs = L.map (Value.int .u8) ∧ D32 L := by
 have c5 : Tryz.prog.cellsOf 5 = 1 := by kernel_rfl
 have c25 : Tryz.prog.cellsOf 80 = 32 := by kernel_rfl
 obtain ⟨xs, m, _, _, hl, hx, hall⟩ := DataW.trod_array Tryz.underlying80 h
 rw [c25] at hl
 rw [c5] at hall
 have each : ∀ i, (hi : i < cs.length) → cs[i] = .int .u8 (intOf cs[i]) ∧ 0 ≤ intOf cs[i] ∧ intOf cs[i] < 256 := by
  intro i hi
  have h1 := hall i (by omega)
  rw [List.getElem?_eq_getElem (by omega)] at h1
  have e1 : (cs.drop (i * 1)).take 1 = [cs[i]] := by
   rw [Nat.mul_one, List.drop_eq_getElem_cons hi, List.take_succ_cons, List.take_zero]
  rw [e1] at h1
  obtain ⟨n, e0, _, wn⟩ := DataW.trod_int Tryz.underlying5 h1
  have hn := bounds_u8 wn
  have e2 : cs[i] = .int .u8 n := by simpa using e0
  rw [e2]
  exact ⟨rfl, by simpa [intOf] using hn.1, by simp [intOf]; omega⟩
 refine ⟨cs.map intOf, ?_, by simp [hl], fun y hy => ?_⟩
 ·apply List.ext_getElem
  ·simp
  ·intro i h1 h2
   simp only [List.getElem_map]
   exact (each i h1).1
 ·obtain ⟨v, hv, rfl⟩ := List.mem_map.1 hy
  obtain ⟨i, hi, rfl⟩ := List.getElem_of_mem hv
  exact (each i hi).2
theorem entry_cells {H : Type} {enc : TypeId × Value → H} {W : World} {base fuel : Nat} {spare : Nat → Bool} {held : Bool} {cs : List Value} {x : DataW H × List MemPlace}
 (h : DataW.trod enc Tryz.prog W base spare held fuel 82 cs = some x) : ∃ y : En, cs = enL y ∧ OkE y := by
 have c1 : Tryz.prog.cellsOf 9 = 1 := by kernel_rfl
 have c32 : Tryz.prog.cellsOf 80 = 32 := by kernel_rfl
 have c33 : Tryz.prog.cellsOf 82 = 33 := by kernel_rfl
 obtain ⟨xs, m, _, _, hl, hx, hall⟩ := DataW.trod_struct Tryz.underlying82 h
 rw [c33] at hl
 have h0 := hall 0 _ rfl
 have h1 := hall 1 _ rfl
 have k : xs.length = 2 := hx
 rw [List.getElem?_eq_getElem (by omega)] at h0 h1
 have h0' : DataW.trod enc Tryz.prog W base spare held m 9 ((cs.drop 0).take 1) = some xs[0] := by rw [← c1]; exact h0
 have h1' : DataW.trod enc Tryz.prog W base spare held m 80 ((cs.drop 1).take 32) = some xs[1] := by rw [← c32]; exact h1
 obtain ⟨s, e0, _, _⟩ := DataW.trod_string Tryz.underlying9 h0'
 obtain ⟨L1, e1, k1⟩ := digest_cellsD h1'
 refine ⟨⟨s, L1⟩, ?_, k1⟩
 show cs = .string s :: L1.map (Value.int .u8)
 rw [← e1]
 have a1 : cs = cs.take 1 ++ cs.drop 1 := (List.take_append_drop 1 cs).symm
 have a3 : (cs.drop 1).take 32 = cs.drop 1 := List.take_of_length_le (by rw [List.length_drop]; omega)
 rw [a3]
 have e0' : cs.take 1 = [.string s] := by rw [List.drop_zero] at e0; exact e0
 rw [e0'] at a1
 exact a1
instance : Inhabited Cg := ⟨⟨ByteArray.empty, [], []⟩⟩
instance : Inhabited En := ⟨⟨ByteArray.empty, []⟩⟩
theorem ens_of_slice {H : Type} {enc : TypeId × Value → H} {W : World} {fuel : Nat} {held : Bool} {da : Option Addr} {n cap : Nat} {x : DataW H × List MemPlace}
 (h : DataW.trod enc Tryz.prog W 0 (fun _ => true) held fuel 29 (Value.slice da n cap).cells.toList = some x) : ∃ l, EnsIn W W.heap.size da n cap l := by
 have c33 : Tryz.prog.cellsOf 82 = 33 := by kernel_rfl
 rcases Go.Deep.open_slice Tryz.underlying29 h with ⟨hcs, _⟩ | ⟨a, len, cap', m, k, D, Pl, hcs, _, hl, hm, hmm, _, hr⟩
 ·simp [Value.cells] at hcs
  obtain ⟨rfl, rfl, rfl⟩ := hcs
  exact ⟨[], ⟨rfl, fun y hy => (by cases hy), fun h => absurd h (by omega)⟩⟩
 ·simp [Value.cells] at hcs
  obtain ⟨rfl, rfl, rfl⟩ := hcs
  simp only [if_true] at hmm
  subst hmm
  unfold maxLen at hm
  rw [c33] at hr
  have each : ∀ i, i < m → ∃ y : En, OkE y ∧ ∀ j, j < 33 → W.cell? ((a.add (i * 33)).add j) = (enL y)[j]? := by
   intro i hi
   obtain ⟨cs', h1, h2⟩ := hr i hi
   obtain ⟨y, rfl, hy⟩ := entry_cells h2
   obtain ⟨_, _, hc⟩ := World.cells?_some h1
   exact ⟨y, hy, fun j hj => hc j (by omega)⟩
  obtain ⟨f, hf⟩ := Go.Deep.choose_lt each
  refine ⟨(List.range n).map f, ⟨by simp, fun y hy => ?_, fun hn => ?_⟩⟩
  ·obtain ⟨i, hi, rfl⟩ := List.mem_map.1 hy
   exact (hf i (by have : i < n := by simpa using hi
                   omega)).1
  ·obtain ⟨b, off, spot⟩ := a
   have h0 := (hf 0 (by omega)).2 0 (by omega)
   have hspot : spot = none := by simpa [Addr.add] using World.cell?_spot (h0.trans (by rfl))
   subst hspot
   refine ⟨b, off, rfl, World.block_lt_of_cell? W _ (by simpa [Addr.add, enL] using h0), hl, fun i y hy j v hv => ?_⟩
   have hi : i < n := by have := (List.getElem?_eq_some_iff.1 hy).1; simpa using this
   have e : y = f i := by rw [List.getElem?_map, List.getElem?_range hi] at hy; exact (Option.some.inj hy).symm
   subst e
   have h1 := hf i (by omega)
   have hj : j < 33 := by have := (List.getElem?_eq_some_iff.1 hv).1; rw [enL_length h1.1] at this; exact this
   have h2 := h1.2 j hj
   rw [Addr.add_mid, Addr.add_mid] at h2
   rw [h2]; exact hv
theorem ints_of_slice {H : Type} {enc : TypeId × Value → H} {W : World} {fuel : Nat} {held : Bool} {da : Option Addr} {n cap : Nat} {x : DataW H × List MemPlace}
 (h : DataW.trod enc Tryz.prog W 0 (fun _ => true) held fuel 23 (Value.slice da n cap).cells.toList = some x) : ∃ l, IntsT W W.heap.size da n cap l := by
 have c1 : Tryz.prog.cellsOf 3 = 1 := by kernel_rfl
 rcases Go.Deep.open_slice Tryz.underlying23 h with ⟨hcs, _⟩ | ⟨a, len, cap', m, k, D, Pl, hcs, _, hl, hm, hmm, _, hr⟩
 ·simp [Value.cells] at hcs
  obtain ⟨rfl, rfl, rfl⟩ := hcs
  exact ⟨[], ⟨rfl, fun h => absurd h (by omega), by simp, by omega⟩⟩
 ·simp [Value.cells] at hcs
  obtain ⟨rfl, rfl, rfl⟩ := hcs
  simp only [if_true] at hmm
  subst hmm
  unfold maxLen at hm
  rw [c1] at hr
  have each : ∀ i, i < m → ∃ v : Int, (-9223372036854775808 ≤ v ∧ v ≤ 9223372036854775807) ∧ W.cell? (a.add (i * 1)) = some (.int .i64 v) := by
   intro i hi
   obtain ⟨cs', h1, h2⟩ := hr i hi
   obtain ⟨v, rfl, _, wn⟩ := DataW.trod_int Tryz.underlying3 h2
   obtain ⟨_, _, hc⟩ := World.cells?_some h1
   have h3 := hc 0 (by omega)
   have h4 : (a.add (i * 1)).add 0 = a.add (i * 1) := by
    cases a with
    | mk b o s => cases s <;> simp [Addr.add]
   rw [h4] at h3
   exact ⟨v, bounds_i64 wn, h3⟩
  obtain ⟨f, hf⟩ := Go.Deep.choose_lt each
  refine ⟨(List.range n).map f, ⟨by simp, fun hn => ?_, fun y hy => ?_, by omega⟩⟩
  ·obtain ⟨b, off, spot⟩ := a
   have h0 := (hf 0 (by omega)).2
   have hspot : spot = none := by simpa [Addr.add] using World.cell?_spot h0
   subst hspot
   refine ⟨b, off, rfl, World.block_lt_of_cell? W _ (by simpa [Addr.add] using h0), hl, fun i v hv => ?_⟩
   have hi : i < n := by have := (List.getElem?_eq_some_iff.1 hv).1; simpa using this
   have e : v = f i := by rw [List.getElem?_map, List.getElem?_range hi] at hv; exact (Option.some.inj hv).symm
   subst e
   have h2 := (hf i (by omega)).2
   rw [Addr.add_mid, Nat.mul_one] at h2
   exact h2
  ·obtain ⟨i, hi, rfl⟩ := List.mem_map.1 hy
   exact (hf i (by have : i < n := by simpa using hi
                   omega)).1
instance : Inhabited Vr := ⟨⟨ByteArray.empty, ByteArray.empty⟩⟩
theorem two_cells {l : List Value} {a b : Value} (hl : l.length = 2) (e0 : (l.drop 0).take 1 = [a]) (e1 : (l.drop 1).take 1 = [b]) : l = [a, b] := by
 match l, hl with
 | [x0, x1], _ => simp at e0 e1; rw [e0, e1]
theorem vr_cells {H : Type} {enc : TypeId × Value → H} {W : World} {fuel : Nat} {held : Bool} {cs : List Value} {x : DataW H × List MemPlace}
 (h : DataW.trod enc Tryz.prog W 0 (fun _ => true) held fuel 61 cs = some x) : ∃ y : Vr, cs = vrL y ∧ y.n.size ≤ maxLen ∧ y.v.size ≤ maxLen := by
 have c1 : Tryz.prog.cellsOf 9 = 1 := by kernel_rfl
 have c2 : Tryz.prog.cellsOf 61 = 2 := by kernel_rfl
 obtain ⟨xs, m, _, _, hl, hx, hall⟩ := DataW.trod_struct Tryz.underlying61 h
 rw [c2] at hl
 have h0 := hall 0 _ rfl
 have h1 := hall 1 _ rfl
 have k : xs.length = 2 := hx
 rw [List.getElem?_eq_getElem (by omega)] at h0 h1
 have h0' : DataW.trod enc Tryz.prog W 0 (fun _ => true) held m 9 ((cs.drop 0).take (Tryz.prog.cellsOf 9)) = some (xs[0]'(by omega)) := h0
 have h1' : DataW.trod enc Tryz.prog W 0 (fun _ => true) held m 9 ((cs.drop 1).take (Tryz.prog.cellsOf 9)) = some (xs[1]'(by omega)) := h1
 rw [c1] at h0' h1'
 obtain ⟨s, e0, _, z0⟩ := DataW.trod_string Tryz.underlying9 h0'
 obtain ⟨s', e1, _, z1⟩ := DataW.trod_string Tryz.underlying9 h1'
 exact ⟨⟨s, s'⟩, two_cells hl e0 e1, z0, z1⟩
theorem vrs_cells {H : Type} {enc : TypeId × Value → H} {W : World} {fuel : Nat} {held : Bool} {cs : List Value} {x : DataW H × List MemPlace}
 (h : DataW.trod enc Tryz.prog W 0 (fun _ => true) held fuel 28 cs = some x) : ∃ sp n cap l, cs = [.slice sp n cap] ∧ VrsIn W W.heap.size sp n cap l ∧ n ≤ maxLen ∧ ∀ y ∈ l, y.n.size ≤ maxLen ∧ y.v.size ≤ maxLen := by
 have c2 : Tryz.prog.cellsOf 61 = 2 := by kernel_rfl
 rcases Go.Deep.open_slice Tryz.underlying28 h with ⟨hcs, _⟩ | ⟨a, n, cap, m, k, D, Pl, hcs, _, hl, hm, hmm, _, hr⟩
 ·exact ⟨none, 0, 0, [], hcs, ⟨rfl, fun h => absurd h (by omega)⟩, by unfold maxLen; omega, fun y hy => by cases hy⟩
 ·simp only [if_true] at hmm
  subst hmm
  rw [c2] at hr
  have each : ∀ i, i < m → ∃ y : Vr, (y.n.size ≤ maxLen ∧ y.v.size ≤ maxLen) ∧ ∀ j, j < 2 → W.cell? ((a.add (i * 2)).add j) = (vrL y)[j]? := by
   intro i hi
   obtain ⟨cs', h1, h2⟩ := hr i hi
   obtain ⟨y, rfl, hy⟩ := vr_cells h2
   obtain ⟨_, _, hc⟩ := World.cells?_some h1
   exact ⟨y, hy, fun j hj => hc j (by omega)⟩
  obtain ⟨f, hf⟩ := Go.Deep.choose_lt each
  refine ⟨some a, n, m, (List.range n).map f, hcs, ⟨by simp, fun hn => ?_⟩, by omega, fun y hy => ?_⟩
  ·obtain ⟨b, off, spot⟩ := a
   have h0 := (hf 0 (by omega)).2 0 (by omega)
   have hspot : spot = none := by simpa [Addr.add] using World.cell?_spot (h0.trans (by rfl))
   subst hspot
   refine ⟨b, off, rfl, World.block_lt_of_cell? W _ (by simpa [Addr.add, vrL] using h0), hl, fun i y hy j v hv => ?_⟩
   have hi : i < n := by have := (List.getElem?_eq_some_iff.1 hy).1; simpa using this
   have e : y = f i := by rw [List.getElem?_map, List.getElem?_range hi] at hy; exact (Option.some.inj hy).symm
   subst e
   have h1 := hf i (by omega)
   have hj : j < 2 := (List.getElem?_eq_some_iff.1 hv).1
   have h2 := h1.2 j hj
   rw [Addr.add_mid, Addr.add_mid] at h2
   rw [h2]; exact hv
  ·obtain ⟨i, hi, rfl⟩ := List.mem_map.1 hy
   exact (hf i (by have : i < n := by simpa using hi
                   omega)).1
theorem strs_cells {H : Type} {enc : TypeId × Value → H} {W : World} {fuel : Nat} {held : Bool} {cs : List Value} {x : DataW H × List MemPlace}
 (h : DataW.trod enc Tryz.prog W 0 (fun _ => true) held fuel 27 cs = some x) : ∃ sp n cap l, cs = [.slice sp n cap] ∧ StrsIn W W.heap.size sp n l ∧ n ≤ maxLen ∧ ∀ y ∈ l, y.size ≤ maxLen := by
 have c1 : Tryz.prog.cellsOf 9 = 1 := by kernel_rfl
 rcases open_strings Tryz.underlying27 Tryz.underlying9 c1 h with ⟨e, _⟩ | ⟨a, n, cap, ss, e, _, hl, hm, hss, _, hc, hw⟩
 ·exact ⟨none, 0, 0, [], e, ⟨rfl, fun h => absurd h (by omega)⟩, by unfold maxLen; omega, fun y hy => by cases hy⟩
 ·simp only [if_true] at hss
  have hlen : (ss.take n).length = n := by rw [List.length_take]; omega
  refine ⟨some a, n, cap, ss.take n, e, ⟨hlen, fun hn => ?_⟩, by omega, fun y hy => hw y (List.mem_of_mem_take hy)⟩
  obtain ⟨b, off, spot⟩ := a
  have h0 := hc 0 (by omega)
  have hspot : spot = none := by simpa [Addr.add] using World.cell?_spot h0
  subst hspot
  refine ⟨b, off, rfl, World.block_lt_of_cell? W _ (by simpa [Addr.add] using h0), fun i hi => ?_⟩
  rw [hlen] at hi
  have h1 := hc i (by omega)
  rw [Addr.add_mid] at h1
  rw [h1]
  rw [List.getElem_take, List.getD_eq_getElem?_getD, List.getElem?_eq_getElem (by omega)]; rfl
theorem ens_cells {H : Type} {enc : TypeId × Value → H} {W : World} {fuel : Nat} {held : Bool} {cs : List Value} {x : DataW H × List MemPlace}
 (h : DataW.trod enc Tryz.prog W 0 (fun _ => true) held fuel 29 cs = some x) : ∃ sp n cap l, cs = [.slice sp n cap] ∧ EnsIn W W.heap.size sp n cap l ∧ n ≤ maxLen := by
 rcases Go.Deep.open_slice Tryz.underlying29 h with ⟨hcs, _⟩ | ⟨a, len, cap', m, k, D, Pl, hcs, _, hl, hm, _⟩
 ·subst hcs
  obtain ⟨l, h1⟩ := ens_of_slice (da := none) (n := 0) (cap := 0) h
  exact ⟨none, 0, 0, l, rfl, h1, by unfold maxLen; omega⟩
 ·subst hcs
  obtain ⟨l, h1⟩ := ens_of_slice (da := some a) (n := len) (cap := cap') h
  exact ⟨some a, len, cap', l, rfl, h1, by omega⟩
theorem eight_cells {l : List Value} {a b c d e f g k : Value} (hl : l.length = 8) (e0 : (l.drop 0).take 1 = [a]) (e1 : (l.drop 1).take 1 = [b]) (e2 : (l.drop 2).take 1 = [c]) (e3 : (l.drop 3).take 1 = [d]) (e4 : (l.drop 4).take 1 = [e]) (e5 : (l.drop 5).take 1 = [f]) (e6 : (l.drop 6).take 1 = [g]) (e7 : (l.drop 7).take 1 = [k]) : l = [a, b, c, d, e, f, g, k] := by
 match l, hl with
 | [x0, x1, x2, x3, x4, x5, x6, x7], _ => simp at e0 e1 e2 e3 e4 e5 e6 e7; rw [e0, e1, e2, e3, e4, e5, e6, e7]
theorem okWide_rc {w : World} {r : Reach} {base : Nat} {v : Value} (h : Value.okWide Tryz.prog w r base 31 v) : ∃ cs, v = .agg cs := by
 simp only [Value.okWide, Tryz.underlying31] at h
 obtain ⟨cs, h1, _⟩ := h
 exact ⟨cs, h1⟩
theorem rcArg_of {H : Type} {enc : TypeId × Value → H} {W : World} {fuel : Nat} {held : Bool} {cs : Array Value} {x : DataW H × List MemPlace}
 (h : DataW.trod enc Tryz.prog W 0 (fun _ => true) held fuel 31 (Value.agg cs).cells.toList = some x) : ∃ y : Rc, cs = y.L.toArray ∧ RcAt y W := by
 have c1 : Tryz.prog.cellsOf 9 = 1 := by kernel_rfl
 have c2 : Tryz.prog.cellsOf 2 = 1 := by kernel_rfl
 have c3 : Tryz.prog.cellsOf 27 = 1 := by kernel_rfl
 have c4 : Tryz.prog.cellsOf 28 = 1 := by kernel_rfl
 have c5 : Tryz.prog.cellsOf 29 = 1 := by kernel_rfl
 have c8 : Tryz.prog.cellsOf 31 = 8 := by kernel_rfl
 generalize hl0 : (Value.agg cs).cells.toList = l at h
 obtain ⟨xs, m, _, hxx, hl, hx, hall⟩ := DataW.trod_struct Tryz.underlying31 h
 rw [c8] at hl
 have h0 := hall 0 _ rfl
 have h1 := hall 1 _ rfl
 have h2 := hall 2 _ rfl
 have h3 := hall 3 _ rfl
 have h4 := hall 4 _ rfl
 have h5 := hall 5 _ rfl
 have h6 := hall 6 _ rfl
 have h7 := hall 7 _ rfl
 have k : xs.length = 8 := hx
 rw [List.getElem?_eq_getElem (by omega)] at h0 h1 h2 h3 h4 h5 h6 h7
 have g0 : DataW.trod enc Tryz.prog W 0 (fun _ => true) held m 9 ((l.drop 0).take (Tryz.prog.cellsOf 9)) = some (xs[0]'(by omega)) := h0
 rw [c1] at g0
 have g1 : DataW.trod enc Tryz.prog W 0 (fun _ => true) held m 9 ((l.drop 1).take (Tryz.prog.cellsOf 9)) = some (xs[1]'(by omega)) := h1
 rw [c1] at g1
 have g2 : DataW.trod enc Tryz.prog W 0 (fun _ => true) held m 9 ((l.drop 2).take (Tryz.prog.cellsOf 9)) = some (xs[2]'(by omega)) := h2
 rw [c1] at g2
 have g3 : DataW.trod enc Tryz.prog W 0 (fun _ => true) held m 2 ((l.drop 3).take (Tryz.prog.cellsOf 2)) = some (xs[3]'(by omega)) := h3
 rw [c2] at g3
 have g4 : DataW.trod enc Tryz.prog W 0 (fun _ => true) held m 27 ((l.drop 4).take (Tryz.prog.cellsOf 27)) = some (xs[4]'(by omega)) := h4
 rw [c3] at g4
 have g5 : DataW.trod enc Tryz.prog W 0 (fun _ => true) held m 28 ((l.drop 5).take (Tryz.prog.cellsOf 28)) = some (xs[5]'(by omega)) := h5
 rw [c4] at g5
 have g6 : DataW.trod enc Tryz.prog W 0 (fun _ => true) held m 29 ((l.drop 6).take (Tryz.prog.cellsOf 29)) = some (xs[6]'(by omega)) := h6
 rw [c5] at g6
 have g7 : DataW.trod enc Tryz.prog W 0 (fun _ => true) held m 29 ((l.drop 7).take (Tryz.prog.cellsOf 29)) = some (xs[7]'(by omega)) := h7
 rw [c5] at g7
 obtain ⟨s0, e0, _, z0⟩ := DataW.trod_string Tryz.underlying9 g0
 obtain ⟨s1, e1, _, z1⟩ := DataW.trod_string Tryz.underlying9 g1
 obtain ⟨s2, e2, _, z2⟩ := DataW.trod_string Tryz.underlying9 g2
 obtain ⟨t, e3, _, z3⟩ := DataW.trod_int Tryz.underlying2 g3
 obtain ⟨q1, qn, qc, q, e4, hq, hqn, hqs⟩ := strs_cells g4
 obtain ⟨v1, vn, vc, v, e5, hv, hvn, hvs⟩ := vrs_cells g5
 obtain ⟨m1, mn, mc, ml, e6, hm, hmn⟩ := ens_cells g6
 obtain ⟨p1, pn, pc, pl, e7, hp, hpn⟩ := ens_cells g7
 have e := eight_cells hl e0 e1 e2 e3 e4 e5 e6 e7
 refine ⟨⟨s0, s1, s2, t, q1, qn, qc, q, v1, vn, vc, v, m1, mn, mc, ml, p1, pn, pc, pl⟩, ?_, hq, hv, hm, hp, ⟨z0, z1, z2, hqn, hvn, hmn, hpn⟩, ⟨hqs, hvs⟩, bounds_i64 z3⟩
 unfold Rc.L
 rw [← e, ← hl0]; simp [Value.cells]
end Go.Proofs.YtecllfbadciaoaaGreatDoor
