/-
  The walk of the reference's Diff (conditions: digests of 32 bytes, at most 100000 elements; a nil slice has no room).
-/
import Derived.Test.YtecllfbadciaoaaGreatDoorZip
import Derived.Test.YtecllfbadciaoaaGreatDoorQ15
set_option maxRecDepth 100000
set_option maxHeartbeats 8000000
namespace Go.Proofs.YtecllfbadciaoaaGreatDoor
open Go.RowKit
def sRDiff (a b : List En) : Except Int (List Cg) := if vldE a && vldE b then .ok (rdif a b) else .error 1
theorem sRDiff_eq (a b : List En) : sRDiff a b = sDiff a b := by
 unfold sRDiff sDiff
 by_cases h : (vldE a && vldE b) = true
 ·rw [if_pos h, if_pos h]
  rw [Bool.and_eq_true] at h
  rw [cdif_eq (vldE_parts h.1).2.1 (vldE_parts h.2).2.1 (vldE_parts h.1).2.2 (vldE_parts h.2).2.2]
 ·rw [if_neg h, if_neg h]
theorem LookRes.unj {w w' : World} {s : List En} {p : ByteArray} {e : Ending} (h : LookRes w (fe s p) e w') : e = .returned (.tuple #[.agg ((dg? s p).map (Value.int .u8)).toArray, .bool (fe s p).isSome]) ∧ Below w.heap.size w w' := by
 unfold dg?
 cases k : fe s p with
 | none => rw [k] at h; exact h
 | some x => rw [k] at h; exact h
structure DqS (w : World) (v : Value) (out : List Cg) (bx : Nat) (d : List Int) (W : World) : Prop where
 own : OwnC W w.heap.size v out
 dp : DpS w bx d W
theorem DqS.next {w : World} {v : Value} {out : List Cg} {bx : Nat} {d : List Int} {W W' : World} (h : DqS w v out bx d W) (hb : Below W.heap.size W W') : DqS w v out bx d W' :=
 ⟨h.own.below hb, h.dp.next hb⟩
theorem hD1_some {b : List En} {x : En} (h : dg? b x.p ≠ x.d) : hD1 b x = some ⟨x.p, x.d, dg? b x.p⟩ := by unfold hD1; rw [if_neg h]
theorem hD1_none {b : List En} {x : En} (h : dg? b x.p = x.d) : hD1 b x = none := by unfold hD1; rw [if_pos h]
theorem hD2_none {a : List En} {y z : En} (h : fe a y.p = some z) : hD2 a y = none := by unfold hD2; rw [h]
theorem hD2_some {a : List En} {y : En} (h : fe a y.p = none) : hD2 a y = some ⟨y.p, zed, y.d⟩ := by unfold hD2; rw [h]
theorem refDiff_any (spa : Option Addr) (na ca : Nat) (a : List En) (spb : Option Addr) (nb cb : Nat) (b : List En) (w : World) (ha : EnsIn w w.heap.size spa na ca a) (hb : EnsIn w w.heap.size spb nb cb b) (hna : na ≤ 100000) (hnb : nb ≤ 100000) :
 Calls Tryz.prog 44 #[.slice spa na ca, .slice spb nb cb] w (ResC w (sRDiff a b)) := by
 have HA := zh ha; have HBb := zh hb; clear ha hb
 obtain ⟨c1, hc1⟩ : ∃ c, vldE a = c := ⟨_, rfl⟩
 obtain ⟨c2, hc2⟩ : ∃ c, vldE b = c := ⟨_, rfl⟩
 have hv1 := fun w' (h : EnsIn w' w'.heap.size spa na ca a) => refValid_any spa na ca a w' h (by omega)
 have hv2 := fun w' (h : EnsIn w' w'.heap.size spb nb cb b) => refValid_any spb nb cb b w' h (by omega)
 rw [hc1] at hv1; rw [hc2] at hv2
 have HV1 := zh hv1; have HV2 := zh hv2; have HC1 := zh hc1; have HC2 := zh hc2
 clear hv1 hv2 hc1 hc2
 cases c1
 ·go_enter Tryz.func44, Tryz.ntmps44
  go_wp2_with fail
  refine (HV1.out _ HA.out).mono ?_
  rintro e w1 ⟨rfl, hb1⟩
  have HB1 := zh hb1; clear hb1
  go_wp2_with fail
  go_ret2
  exact resC_error (by unfold sRDiff; rw [HC1.out]; rfl) rfl HB1.out
 cases c2
 ·go_enter Tryz.func44, Tryz.ntmps44
  go_wp2_with fail
  refine (HV1.out _ HA.out).mono ?_
  rintro e w1 ⟨rfl, hb1⟩
  have HB1 := zh hb1; clear hb1
  go_wp2_with fail
  refine (HV2.out _ (HBb.out.up HB1.out (Nat.le_refl _))).mono ?_
  rintro e w2 ⟨rfl, hb2⟩
  have HB2 := zh (HB1.out.trans (hb2.mono HB1.out.size)); clear hb2
  go_wp2_with fail
  go_ret2
  exact resC_error (by unfold sRDiff; rw [HC1.out, HC2.out]; rfl) rfl HB2.out
 have HS : Hid (sRDiff a b = .ok (rdif a b)) := by show _ = _; unfold sRDiff; rw [HC1.out, HC2.out]; rfl
 go_enter Tryz.func44, Tryz.ntmps44
 go_wp2_with fail
 refine (HV1.out _ HA.out).mono ?_
 rintro e w1 ⟨rfl, hb1⟩
 have HB1 := zh hb1; clear hb1
 go_wp2_with fail
 refine (HV2.out _ (HBb.out.up HB1.out (Nat.le_refl _))).mono ?_
 rintro e wz ⟨rfl, hbz⟩
 have HBz := zh (HB1.out.trans (hbz.mono HB1.out.size)); clear hbz
 go_wp2_with fail
 clear HV1 HV2
 go_loopw [6, 7] (fun v i wr => ∃ (k N : Nat) (out : List Cg) (sp6 : Option Addr) (cap6 : Nat), k ≤ na ∧ N ≤ k ∧ i = .int .i64 k ∧ v = .slice sp6 N cap6 ∧ Hid (N = out.length) ∧ Hid (OwnC wr w.heap.size (.slice sp6 N cap6) out) ∧ Hid ((a.take k).foldl (insF Cg.p (hD1 b)) [] = out) ∧ Hid (Below w.heap.size w wr)) (fun _ i _ => na - (intOf i).toNat)
 case atStart => exact ⟨0, 0, [], _, _, Nat.zero_le _, Nat.le_refl _, rfl, rfl, rfl, OwnC.nil _ _, rfl, HBz.out⟩
 case round =>
 obtain ⟨k, N, out, sp6, cap6, hk, hNk, rfl, rfl, HN, hown, HF, hbe⟩ := hrel
 by_cases hlt : k < na
 ·have hd : decide ((k : Int) < (na : Int)) = true := by simp; omega
  obtain ⟨x, hx⟩ : ∃ x, a[k]? = some x := ⟨a[k]'(by have := HA.out.len; omega), List.getElem?_eq_getElem _⟩
  obtain ⟨b1, o1, rfl, hbB, hcap, -⟩ := HA.out.cells (by omega)
  have HX := zh hx
  have HOX := zh (HA.out.ok x (List.mem_of_getElem? hx))
  have hxp := rngE_p (range_belowS (HA.out.at hx).2 hbe.out hbB)
  have HIO := zh (info_d HOX.out)
  have HST := zh (fold_step (f := insF Cg.p (hD1 b)) HF.out hx)
  have p1 : (0 : Int) ≤ (k : Int) := by omega
  have p2 : (k : Int) < (na : Int) := by omega
  have hN4 : N ≤ 400000 := by omega
  have hfi := (rlook_any spb nb cb b x.p wr (HBb.out.up hbe.out (Nat.le_refl _)) (by omega)).mono fun e w' h => h.uni
  have hDq := dg?_ok HBb.out.ok x.p
  obtain ⟨d, hde⟩ : ∃ d, dg? b x.p = d := ⟨_, rfl⟩
  rw [hde] at hfi hDq
  have HDE := zh hde
  have HDQ := zh hDq
  have HFI := zh hfi
  have hn1 := neqD d x.d HDQ.out.1 HOX.out.1
  obtain ⟨d1, hd1⟩ : ∃ c, decide (d = x.d) = c := ⟨_, rfl⟩
  rw [hd1] at hn1
  have HD1 := zh hd1
  have HIQ := zh (info_d HDQ.out)
  have HIY : Hid ((Tryz.prog.info? 80).map (·.size) = some (d.map (Value.int .u8)).toArray.size) := by show _ = _; rw [List.size_toArray]; exact info_d HDQ.out
  have HIYs : Hid (32 = (d.map (Value.int .u8)).toArray.size) := by show _ = _; rw [List.size_toArray, List.length_map, HDQ.out.1]
  have HZOK : Hid (OkC (⟨x.p, x.d, d⟩ : Cg)) := ⟨HOX.out, HDQ.out⟩
  clear hx hfi hDq hd1 hde
  go_wp2_with fail
  refine HFI.out.mono ?_
  rintro e w2 ⟨c, rfl, hb2⟩
  have HO2 := zh (hown.out.below hb2)
  have HB2 := zh (hbe.out.trans (hb2.mono hbe.out.size)); clear hb2
  go_wp2_with (refine wpList_store_row rfl 80 _ _ rfl w2.heap.size _ rfl rfl 80 (Array.replicate 32 (Value.int .u8 0)) (heap_alloc_new w2 _) HIY.out ((rfl : (Array.replicate 32 (Value.int .u8 0)).size = 32).trans HIYs.out) (dgA_one _) ?_; rw [setRow_new]; generalize hw3 : World.alloc w2 _ = w3; have hcp : DqS w (.slice sp6 N cap6) out w2.heap.size d w3 := (by rw [← hw3]; exact ⟨HO2.out.below ((Below.refl _ _).alloc (Nat.le_refl _) _), HB2.out.trans (((Below.refl _ _).alloc (Nat.le_refl _) _).mono HB2.out.size), heap_alloc_new w2 _⟩); have HCP := zh hcp; clear hw3 hcp)
  refine wp_region_held_drew (S := fun w' => DqS w (.slice sp6 N cap6) out w2.heap.size d w') (by kernel_rfl) (HCP.out.next ((Below.refl w3.heap.size w3).drew)) (fun hHeld => ?_)
  refine' zk 0 rfl (v := _) (yieldsIf_load_mid (by rfl) _ _ rfl _ _ rfl _ _ ?hS0n1 Tryz.underlying80 rfl HIQ.out) ?rest0n1
  case hS0n1 =>
   intro w' hSw
   exact hSw.dp.row
  try simp only [Act.put, zuA, zuB, zuC, zuD, zuY, zuF]
  refine zv 1 rfl ?_
  refine zv 2 rfl ?_
  refine zv 3 rfl ?_
  refine zv 4 rfl ?_
  refine' zk 5 rfl (v := _) (yieldsIf_load_mid (by rfl) _ _ rfl _ _ rfl _ _ ?hS5n6 Tryz.underlying80 rfl HIO.out) ?rest5n6
  case hS5n6 =>
   intro w' hSw
   exact (rngE_d (range_belowS (HA.out.at HX.out).2 hSw.dp.below hbB))
  try simp only [Act.put, zuA, zuB, zuC, zuD, zuY, zuF]
  refine zv 6 rfl ?_
  refine zd ?_ _
  have HCP4 := zh (HCP.out.next ((Below.refl w3.heap.size w3).drew))
  clear hHeld
  generalize World.drew w3 = w4 at HCP4 ⊢
  cases d1
  ·have HST2 : Hid ((a.take (k + 1)).foldl (insF Cg.p (hD1 b)) [] = ins Cg.p out ⟨x.p, x.d, d⟩) := by
    show _ = _
    have h1 := of_decide_eq_false HD1.out
    rw [← HDE.out] at h1 ⊢
    rw [HST.out]; exact insF_some (hD1_some h1)
   have HG6 := zh ((HCP4.out.next ((Below.refl w4.heap.size w4).drew)).own.cgs HN.out.symm)
   have HNIL := zh HCP4.out.own.nilcap
   go_wp2_with fail
   refine wp_region_held_drew (S := fun w' => DqS w (.slice sp6 N cap6) out w2.heap.size d w') (by kernel_rfl) (HCP4.out.next ((Below.refl w4.heap.size w4).drew)) (fun hHeld => ?_)
   refine zv 0 rfl ?_
   refine zv 1 rfl ?_
   refine zv 2 rfl ?_
   refine zv 3 rfl ?_
   refine zv 4 rfl ?_
   refine zx 5 rfl (v := ?_) ?_ ?_; rotate_left
   ·intro w' hSw; have h1 := (rngE_p (range_belowS (HA.out.at HX.out).2 hSw.dp.below hbB)); go_simp; try with_reducible rfl
   refine zv 6 rfl ?_
   refine zv 7 rfl ?_
   refine zv 8 rfl ?_
   refine zv 9 rfl ?_
   refine' zk 10 rfl (v := _) (yieldsIf_load_mid (by rfl) _ _ rfl _ _ rfl _ _ ?hS10n18 Tryz.underlying80 rfl HIO.out) ?rest10n18
   case hS10n18 =>
    intro w' hSw
    exact (rngE_d (range_belowS (HA.out.at HX.out).2 hSw.dp.below hbB))
   try simp only [Act.put, zuA, zuB, zuC, zuD, zuY, zuF]
   refine' zk 11 rfl (v := _) (yieldsIf_load_mid (by rfl) _ _ rfl _ _ rfl _ _ ?hS11n19 Tryz.underlying80 rfl HIQ.out) ?rest11n19
   case hS11n19 =>
    intro w' hSw
    exact hSw.dp.row
   try simp only [Act.put, zuA, zuB, zuC, zuD, zuY, zuF]
   refine zk 12 rfl (v := _) (yieldsIf_buildS (by rfl) 86 [(0, .tmp 49), (1, .tmp 54), (2, .tmp 55)] rfl [(0, .string x.p), (1, .agg (x.d.map (Value.int .u8)).toArray), (2, .agg (d.map (Value.int .u8)).toArray)] rfl _ (fun w' _ => buildC x.p x.d d HOX.out.1 HDQ.out.1 w')) ?rest12n20
   try simp only [Act.put, zuA, zuB, zuC, zuD, zuY, zuF]
   refine zr 13 rfl (fun K hK => ?_)
   go_simp
   with_reducible refine (rput_any sp6 N cap6 out ⟨x.p, x.d, d⟩ _ HG6.out HNIL.out HZOK.out hN4).mono ?_
   rintro e w6 ⟨sp7, cap7, rfl, ho7, hb7⟩
   go_wp2_with fail
   refine hK.out _ _ ((HCP4.out.next ((Below.refl w4.heap.size w4).drew)).next hb7) fun _ => ?_; clear hK K
   try simp only [Act.put, zuA, zuB, zuC, zuD, zuY, zuF]
   refine zv 14 rfl ?_
   refine zd ?_ _
   have HCP6 := zh (HCP4.out.next ((Below.refl w4.heap.size w4).drew))
   have HO7 := zh (ho7.base HCP6.out.dp.below.size)
   have HB7 := zh (HCP6.out.dp.below.trans (hb7.mono HCP6.out.dp.below.size)); clear ho7 hb7 hHeld
   go_wp2_with fail
   go_roundw
   case rel => exact ⟨k + 1, N + 1, ins Cg.p out ⟨x.p, x.d, d⟩, sp7, cap7, by omega, by omega, by go_num, rfl, by show _ = _; rw [length_ins, HN.out], HO7.out, HST2.out, HB7.out⟩
   case measure => simp [intOf]; omega
  ·have HST2 : Hid ((a.take (k + 1)).foldl (insF Cg.p (hD1 b)) [] = out) := by
    show _ = _
    have h1 := of_decide_eq_true HD1.out
    rw [← HDE.out] at h1
    rw [HST.out]; exact insF_none (hD1_none h1)
   go_wp2_with fail
   go_roundw
   case rel => exact ⟨k + 1, N, out, sp6, cap6, by omega, by omega, by go_num, rfl, HN, HCP4.out.own, HST2.out, HCP4.out.dp.below⟩
   case measure => simp [intOf]; omega
 ·obtain rfl : k = na := by omega
  have hd : decide ((k : Int) < (k : Int)) = false := by simp
  have HRM : Hid (rdif a b = b.foldl (insF Cg.p (hD2 a)) out) := by
   have := HF.out
   rw [List.take_of_length_le (by rw [HA.out.len]; exact Nat.le_refl _)] at this
   show _ = _
   unfold rdif; rw [this]
  go_wp2_with fail
  clear hd HF
  obtain ⟨out0, ho0⟩ : ∃ o, o = out := ⟨_, rfl⟩
  have HRM2 : Hid (rdif a b = b.foldl (insF Cg.p (hD2 a)) out0) := by rw [ho0]; exact HRM
  have HO0 := zh ho0
  clear ho0
  have hNka : N ≤ k + 0 := by omega
  go_loopw [6, 10] (fun v i wr => ∃ (j M : Nat) (o : List Cg) (sp8 : Option Addr) (cap8 : Nat), j ≤ nb ∧ M ≤ k + j ∧ i = .int .i64 j ∧ v = .slice sp8 M cap8 ∧ Hid (M = o.length) ∧ Hid (OwnC wr w.heap.size (.slice sp8 M cap8) o) ∧ Hid ((b.take j).foldl (insF Cg.p (hD2 a)) out0 = o) ∧ Hid (Below w.heap.size w wr)) (fun _ i _ => nb - (intOf i).toNat)
  case atStart => exact ⟨0, N, out, sp6, cap6, Nat.zero_le _, hNka, rfl, rfl, HN, hown, by show _ = _; rw [HO0.out]; rfl, hbe⟩
  case round =>
  clear hown hbe HN
  obtain ⟨j, M, o, sp8, cap8, hj, hM, rfl, rfl, HN, hown, HG, hbe⟩ := hrel
  by_cases hltj : j < nb
  ·have hd : decide ((j : Int) < (nb : Int)) = true := by simp; omega
   obtain ⟨y, hy⟩ : ∃ y, b[j]? = some y := ⟨b[j]'(by have := HBb.out.len; omega), List.getElem?_eq_getElem _⟩
   obtain ⟨b2, o2, rfl, hbB, hcap, -⟩ := HBb.out.cells (by omega)
   have HX := zh hy
   have HOY := zh (HBb.out.ok y (List.mem_of_getElem? hy))
   have hyp := rngE_p (range_belowS (HBb.out.at hy).2 hbe.out hbB)
   have HIN := zh (info_d HOY.out)
   have HST := zh (fold_step (f := insF Cg.p (hD2 a)) HG.out hy)
   have p1 : (0 : Int) ≤ (j : Int) := by omega
   have p2 : (j : Int) < (nb : Int) := by omega
   have hM4 : M ≤ 400000 := by omega
   have hfi := (rlook_any spa k ca a y.p wr (HA.out.up hbe.out (Nat.le_refl _)) (by omega)).mono fun e w' h => h.unj
   have hDq := dg?_ok HA.out.ok y.p
   obtain ⟨r, hr⟩ : ∃ r, fe a y.p = r := ⟨_, rfl⟩
   rw [hr] at hfi
   generalize dg? a y.p = d at hfi hDq
   have HR := zh hr
   have HFI := zh hfi
   have HIY : Hid ((Tryz.prog.info? 80).map (·.size) = some (d.map (Value.int .u8)).toArray.size) := by show _ = _; rw [List.size_toArray]; exact info_d hDq
   have HIYs : Hid (32 = (d.map (Value.int .u8)).toArray.size) := by show _ = _; rw [List.size_toArray, List.length_map, hDq.1]
   have HZOK : Hid (OkC (⟨y.p, zed, y.d⟩ : Cg)) := ⟨D32.zed, HOY.out⟩
   clear hy hfi hDq hr
   go_wp2_with fail
   refine HFI.out.mono ?_
   rintro e w2 ⟨rfl, hb2⟩
   have HO2 := zh (hown.out.below hb2)
   have HB2 := zh (hbe.out.trans (hb2.mono hbe.out.size)); clear hb2
   cases r with
   | none =>
     have HST2 : Hid ((b.take (j + 1)).foldl (insF Cg.p (hD2 a)) out0 = ins Cg.p o ⟨y.p, zed, y.d⟩) := by show _ = _; rw [HST.out]; exact insF_some (hD2_some HR.out)
     go_wp2_with (refine wpList_store_row rfl 80 _ _ rfl w2.heap.size _ rfl rfl 80 (Array.replicate 32 (Value.int .u8 0)) (heap_alloc_new w2 _) HIY.out ((rfl : (Array.replicate 32 (Value.int .u8 0)).size = 32).trans HIYs.out) (dgA_one _) ?_; rw [setRow_new]; generalize hw3 : World.alloc w2 _ = w3; have hcp : Below w2.heap.size w2 w3 := (by rw [← hw3]; exact (Below.refl _ _).alloc (Nat.le_refl _) _); have HO3 := zh (HO2.out.below hcp); have HB3 := zh (HB2.out.trans (hcp.mono HB2.out.size)); clear hw3 hcp)
     have HG6 := zh ((HO3.out.below ((Below.refl w3.heap.size w3).drew)).cgs HN.out.symm)
     have HNIL := zh HO3.out.nilcap
     try go_wp2_with fail
     refine wp_region_held_drew (S := fun w' => Below w.heap.size w w') (by kernel_rfl) (HB3.out.drew) (fun hHeld => ?_)
     refine zv 0 rfl ?_
     refine zv 1 rfl ?_
     refine zv 2 rfl ?_
     refine zv 3 rfl ?_
     refine zv 4 rfl ?_
     refine zx 5 rfl (v := ?_) ?_ ?_; rotate_left
     ·intro w' hSw; have h1 := (rngE_p (range_belowS (HBb.out.at HX.out).2 hSw hbB)); go_simp; try with_reducible rfl
     refine zv 6 rfl ?_
     refine zv 7 rfl ?_
     refine zv 8 rfl ?_
     refine zv 9 rfl ?_
     refine' zk 10 rfl (v := _) (yieldsIf_load_mid (by rfl) _ _ rfl _ _ rfl _ _ ?hS10n32 Tryz.underlying80 rfl HIN.out) ?rest10n32
     case hS10n32 =>
      intro w' hSw
      exact (rngE_d (range_belowS (HBb.out.at HX.out).2 hSw hbB))
     try simp only [Act.put, zuA, zuB, zuC, zuD, zuY, zuF]
     refine zk 11 rfl (v := _) (yieldsIf_buildS (by rfl) 86 [(0, .tmp 81), (2, .tmp 86)] rfl [(0, .string y.p), (2, .agg (y.d.map (Value.int .u8)).toArray)] rfl _ (fun w' _ => buildC2 y.p y.d HOY.out.1 w')) ?rest11n33
     try simp only [Act.put, zuA, zuB, zuC, zuD, zuY, zuF]
     refine zr 12 rfl (fun K hK => ?_)
     go_simp
     with_reducible refine (rput_any sp8 M cap8 o ⟨y.p, zed, y.d⟩ _ HG6.out HNIL.out HZOK.out hM4).mono ?_
     rintro e w6 ⟨sp7, cap7, rfl, ho7, hb7⟩
     go_wp2_with fail
     refine hK.out _ _ ((HB3.out.drew).trans (hb7.mono (HB3.out.drew).size)) fun _ => ?_; clear hK K
     try simp only [Act.put, zuA, zuB, zuC, zuD, zuY, zuF]
     refine zv 13 rfl ?_
     refine zd ?_ _
     have HO7 := zh (ho7.base (HB3.out.drew).size)
     have HB7 := zh ((HB3.out.drew).trans (hb7.mono (HB3.out.drew).size)); clear ho7 hb7 hHeld
     go_wp2_with fail
     go_roundw
     case rel => exact ⟨j + 1, M + 1, ins Cg.p o ⟨y.p, zed, y.d⟩, sp7, cap7, by omega, by omega, by go_num, rfl, by show _ = _; rw [length_ins, HN.out], HO7.out, HST2.out, HB7.out⟩
     case measure => simp [intOf]; omega
   | some z =>
     have HST2 : Hid ((b.take (j + 1)).foldl (insF Cg.p (hD2 a)) out0 = o) := by show _ = _; rw [HST.out]; exact insF_none (hD2_none HR.out)
     go_wp2_with (refine wpList_store_row rfl 80 _ _ rfl w2.heap.size _ rfl rfl 80 (Array.replicate 32 (Value.int .u8 0)) (heap_alloc_new w2 _) HIY.out ((rfl : (Array.replicate 32 (Value.int .u8 0)).size = 32).trans HIYs.out) (dgA_one _) ?_; rw [setRow_new]; generalize hw3 : World.alloc w2 _ = w3; have hcp : Below w2.heap.size w2 w3 := (by rw [← hw3]; exact (Below.refl _ _).alloc (Nat.le_refl _) _); have HO3 := zh (HO2.out.below hcp); have HB3 := zh (HB2.out.trans (hcp.mono HB2.out.size)); clear hw3 hcp)
     go_roundw
     case rel => exact ⟨j + 1, M, o, sp8, cap8, by omega, by omega, by go_num, rfl, HN, HO3.out, HST2.out, HB3.out⟩
     case measure => simp [intOf]; omega
  ·obtain rfl : j = nb := by omega
   have hd : decide ((j : Int) < (j : Int)) = false := by simp
   have HS2 : Hid (sRDiff a b = .ok o) := by
    have := HG.out
    rw [List.take_of_length_le (by rw [HBb.out.len]; exact Nat.le_refl _)] at this
    show _ = _
    rw [HS.out, HRM2.out, this]
   go_wp2_with fail
   go_ret2
   exact resC_ok HS2.out HN.out rfl hown.out hbe.out
end Go.Proofs.YtecllfbadciaoaaGreatDoor
