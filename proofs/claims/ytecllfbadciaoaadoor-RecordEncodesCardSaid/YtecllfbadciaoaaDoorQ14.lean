/-
  The walk of the reference's Encode of records (condition: the record stands in memory, within the statements' bounds).
-/
import Derived.Test.YtecllfbadciaoaaDoorZip
import Derived.Test.YtecllfbadciaoaaDoorRecG
import Derived.Test.YtecllfbadciaoaaDoorQ13
import Derived.Test.YtecllfbadciaoaaDoorRecV
import Derived.Deep.Slices
import Derived.ProofKit
import Derived.OpenShut
import Derived.ShutString
import Derived.ChangeOld
set_option maxRecDepth 100000
set_option maxHeartbeats 8000000
namespace Go.Proofs.YtecllfbadciaoaaDoor
open Go.RowKit
theorem rencodeR_any (x : Rc) (w : World) (hx : RcIn x w) :
 Calls Tryd.prog 6 #[.agg x.L.toArray] w (EncAns x w) := by
 have HX := zh (RcBox.new hx); have HX0 := zh hx
 have HCB : Hid (x.cn ≤ 1000) := hx.b.2.2.2.1
 have HVB : Hid (x.vn ≤ 1000) := hx.b.2.2.2.2.1
 have HMB : Hid (x.mn ≤ 1000) := hx.b.2.2.2.2.2.1
 have HPB : Hid (x.pn ≤ 1000) := hx.b.2.2.2.2.2.2
 have HTB := zh hx.t
 clear hx
 go_enter Tryd.func6, Tryd.ntmps6
 go_upto_region 1 with fail
 generalize hw0 : World.alloc w _ = w0
 have HB0 : Hid (RcBox x w w0) := by rw [← hw0]; exact HX.out
 clear hw0 HX
 go_wp2_with (refine wpList_load_row rfl 26 _ rfl w.heap.size rfl 26 _ (0, 0) _ HB0.out.r Tryd.underlying26 rfl (infoRcA x) ?_)
 refine (rvalidR_any x w0 HB0.out.i).mono ?_
 rintro e w1 ⟨rfl, hb⟩
 have HB1 : Hid (RcBox x w w1) := HB0.out.below hb
 clear hb HB0
 cases hrc : rcB x
 ·have HE := zh (encR_no hrc)
  go_wp2_with fail
  go_ret2
  refine ⟨.slice none 0 0, by rw [HE.out]; rfl, ?_, HB1.out.b⟩
  rw [HE.out]; exact World.ownsRow_nil _ _ _ _
 have HE := zh (encR_yes hrc)
 clear hrc
 have HCN : Hid (∀ w', Below w1.heap.size w1 w' → Calls Tryd.prog 17 #[.int .i64 x.t] w' fun e w'' => e = .returned (.string (numW x.t)) ∧ Below w'.heap.size w' w'') := fun w' _ =>
  refNumber_any x.t HTB.out.1 HTB.out.2 w'
 obtain ⟨B, hBe⟩ : ∃ B, B = w1.heap.size := ⟨_, rfl⟩
 have HSw1 : Hid (Blks B w1 w1 []) := Blks.start (Below.refl _ _) (Nat.le_of_eq hBe)
 rw [← hBe] at HCN
 have HLT : Hid (w.heap.size < B) := by show _ < _; rw [hBe]; exact HB1.out.lt
 have HBX : Hid (∀ w', Below B w1 w' → RcBox x w w') := fun w' hb => HB1.out.belowB HX0.out hb HLT.out
 have HBe := zh hBe
 clear hBe
 go_upto_region 3 with fail
 go_cut [4] (fun s4 wx => ∃ g ls, s4 = .slice (some ⟨g, 0, none⟩) 1 1 ∧ LnsOwn wx B (.slice (some ⟨g, 0, none⟩) 1 1) ls ∧ ls.length = 1 ∧ wordsOf ls = [[recW, x.run, x.scp, x.stp, numW x.t]] ∧ Below B w1 wx)
 case first =>
  as_aux_lemma =>
   refine wp_region_held_drew (S := fun w' => Below B w1 w') (by kernel_rfl) HSw1.out.b.drew (fun hHeld => ?_)
   refine zv 0 rfl ?_
   refine zx 1 rfl (v := ?_) ?_ ?_; rotate_left
   ·intro w' hSw; have k1 := (HBX.out w' hSw).c0; go_simp; try with_reducible rfl
   refine zv 2 rfl ?_
   refine zx 3 rfl (v := ?_) ?_ ?_; rotate_left
   ·intro w' hSw; have k1 := (HBX.out w' hSw).c1; go_simp; try with_reducible rfl
   refine zv 4 rfl ?_
   refine zx 5 rfl (v := ?_) ?_ ?_; rotate_left
   ·intro w' hSw; have k1 := (HBX.out w' hSw).c2; go_simp; try with_reducible rfl
   refine zv 6 rfl ?_
   refine zx 7 rfl (v := ?_) ?_ ?_; rotate_left
   ·intro w' hSw; have k1 := (HBX.out w' hSw).c3; go_simp; try with_reducible rfl
   refine zr 8 rfl (fun K hK => ?_)
   go_simp
   with_reducible refine (HCN.out _ (HSw1.out.drew).b).mono ?_
   rintro e v1 ⟨rfl, hb⟩
   have HSv1 := zh (HSw1.out.call ((Below.refl _ _).drew.trans hb))
   clear hb
   go_wp2_with fail
   refine hK.out _ _ HSv1.out.b fun _ => ?_; clear hK K
   refine zr 9 rfl (fun K hK => ?_)
   first | (rw [if_pos (by rfl)]; refine wp_slice_eqR 22 5 [(0, .const (.string ⟨#[114, 101, 99, 111, 114, 100]⟩)), (1, .tmp 10), (2, .tmp 12), (3, .tmp 14), (4, .tmp 17)] rfl [(0, .string recW), (1, .string x.run), (2, .string x.scp), (3, .string x.stp), (4, .string (numW x.t))] rfl _ _ (slice5R _ _ _ _ _) ?_) | skip
   obtain ⟨g5, v2, hg, hw, HSv2, HEv2⟩ := HSv1.out.allocd (.cells ([recW, x.run, x.scp, x.stp, numW x.t].map Value.string).toArray 9 (0, 0))
   go_simp
   try rw [hg]
   generalize hq : World.alloc v1 _ = q
   obtain rfl : v2 = q := hw.symm.trans hq
   clear hg hw hq
   refine hK.out _ _ HSv2.out.b fun _ => ?_; clear hK K
   refine zr 10 rfl (fun K hK => ?_)
   first | (rw [if_pos (by rfl)]; refine wp_slice_eqR 50 1 [(0, .tmp 18)] rfl [(0, .slice (some ⟨g5, 0, none⟩) 5 5)] rfl _ _ (sliceE1 _ _ _ _) ?_) | skip
   obtain ⟨g0, v3, hg, hw, HSv3, HEv3⟩ := HSv2.out.allocd (.cells #[.slice (some ⟨g5, 0, none⟩) 5 5] 22 (0, 0))
   go_simp
   try rw [hg]
   generalize hq : World.alloc v2 _ = q
   obtain rfl : v3 = q := hw.symm.trans hq
   clear hg hw hq
   refine hK.out _ _ HSv3.out.b fun _ => ?_; clear hK K
   refine zv 11 rfl ?_
   refine zd ?_ _
   go_wp2_with fail
   go_meet
   exact ⟨g0, [⟨some ⟨g5, 0, none⟩, 5, 5, [recW, x.run, x.scp, x.stp, numW x.t]⟩], rfl, lnsOwn_row (HSv3.out.at 0 rfl) (HSv3.out.lt 0 rfl).1 rfl (by decide) (fun q hq => by rw [List.mem_singleton.1 hq]; exact lnOwn_row (HSv3.out.at 1 rfl) (HSv3.out.lt 1 rfl).1 rfl (by decide)), rfl, rfl, HSv3.out.b⟩
 case rest =>
 obtain ⟨g, ls1, rfl, hl1, hn1, hw1, hbb⟩ := hcut
 have hK1 := ‹∀ (a : Act) (w : World), Code.wp _ _ _ a w → _›
 refine hK1 _ _ ?_
 clear hK1
 obtain ⟨w2, hw2⟩ : ∃ w2, w2 = wc := ⟨_, rfl⟩
 subst hw2
 have HB2 : Hid (RcBox x w w2) := HBX.out w2 hbb
 have HK2 : Hid (B ≤ w2.heap.size) := by show _ ≤ _; have := hbb.size; have := HBe.out; omega
 have HL1 := zh hl1; have HN1 := zh hn1; have HW1 := zh hw1
 clear HSw1 HCN HBX hl1 hn1 hw1 hbb HB1 HBe
 have hb3 : Below w2.heap.size w2 (w2.alloc (.cells #[.string ⟨#[99, 111, 109, 109, 97, 110, 100]⟩] 9)) := (Below.refl _ _).alloc (Nat.le_refl _) _
 have c4 := (HB2.out.below hb3).c4
 have HC3 := zh (HB2.out.below hb3).i.c
 have HB3 := zh hb3
 clear hb3
 go_upto_region 5 with (first
  | (refine wpList_plain rfl fun _ hK => wp_append_wdsR _ _ rfl B w2.heap.size [cmdW] 1 rfl (by decide) rfl (heap_alloc_new w2 _) HK2.out (Nat.le_trans HK2.out HB3.out.size) _ x.c1 x.cn x.cc x.c rfl HC3.out HCB.out (fun sp1 cap1 w4 HO4 HG4 => hK _ _ ?_); have hb24 : Below w2.heap.size w2 w4 := HB3.out.grown HG4.out (by have := HB3.out.size; omega) (fun k e => by injection e with e; omega); have HB24 := zh hb24; clear hb24 HG4; have hb45 : Below w4.heap.size w4 (w4.alloc (.cells #[.slice sp1 (1 + x.cn) cap1] 22)) := (Below.refl _ _).alloc (Nat.le_refl _) _; have HB45 := zh hb45; clear hb45 c4)
  | (refine wpList_plain rfl fun _ hK => wp_append_lns _ _ rfl B _ ls1 1 HN1.out.symm rfl ((HL1.out.below HB24.out).below HB45.out) w4.heap.size ⟨sp1, 1 + x.cn, cap1, [cmdW] ++ x.c⟩ rfl (heap_cellR (L := [.slice sp1 (1 + x.cn) cap1]) (heap_alloc_new w4 _) rfl) (HO4.out.below HB45.out) (by decide) (Nat.le_trans HK2.out (Nat.le_trans HB24.out.size HB45.out.size)) (fun sp2 cap2 w6 HL6 HBB6 HGR6 => hK _ _ ?_)))
 have HB6 : Hid (RcBox x w w6) := ((HB2.out.below HB24.out).below HB45.out).belowB HX0.out HBB6.out HLT.out
 have HK6 : Hid (B ≤ w6.heap.size) := Nat.le_trans (Nat.le_trans HK2.out (Nat.le_trans HB24.out.size HB45.out.size)) HBB6.out.size
 have HN6' : Hid ((ls1 ++ [(⟨sp1, 1 + x.cn, cap1, [cmdW] ++ x.c⟩ : Ln)]).length = 2) := by show _ = _; rw [List.length_append, HN1.out]; rfl
 have HW6' : Hid (wordsOf (ls1 ++ [(⟨sp1, 1 + x.cn, cap1, [cmdW] ++ x.c⟩ : Ln)]) = headR x) := by show _ = _; rw [wordsOf_appR, HW1.out]; rfl
 clear HBB6 HGR6 HO4 HB24 HB45 HB2 HB3 HC3 HK2 HL1 HN1 HW1
 generalize (ls1 ++ [(⟨sp1, 1 + x.cn, cap1, [cmdW] ++ x.c⟩ : Ln)]) = ls2 at *
 go_wp2_with fail
 go_loopw [4, 5] (fun v i wr => ∃ (k : Nat) (sp : Option Addr) (cap : Nat) (ls : List Ln), k ≤ x.vn ∧ v = .slice sp (2 + k) cap ∧ i = .int .i64 k ∧ Hid (LnsOwn wr B (.slice sp (2 + k) cap) ls ∧ ls.length = 2 + k ∧ wordsOf ls = headR x ++ envR (x.v.take k)) ∧ Hid (RcBox x w wr) ∧ Hid (B ≤ wr.heap.size)) (fun _ i _ => x.vn - (intOf i).toNat)
 case atStart => exact ⟨0, sp2, cap2, ls2, Nat.zero_le _, rfl, rfl, ⟨HL6.out, HN6'.out, by rw [HW6'.out]; simp [envR]⟩, HB6.out, HK6.out⟩
 case round =>
  clear HL6 HN6' HW6' HB6 HK6
  obtain ⟨k, sp0, cap0, ls0, hk, rfl, rfl, HLS, HB, HK⟩ := hrel
  have hvb : x.vn ≤ 1000 := HVB.out
  have c5 := HB.out.c5
  by_cases hlt : k < x.vn
  ·have hd : decide ((k : Int) < (x.vn : Int)) = true := by simp; omega
   obtain ⟨b, off, hv1, hbB, hcap, hr⟩ := HX0.out.v.cells (by omega)
   have hkl : k < x.v.length := by rw [HX0.out.v.len]; exact hlt
   obtain ⟨y, hy⟩ : ∃ y, x.v[k]? = some y := ⟨x.v[k], List.getElem?_eq_getElem hkl⟩
   have p1 : (0 : Int) ≤ (k : Int) := by omega
   have p2 : (k : Int) < (x.vn : Int) := by omega
   have HV1 := zh hv1
   have HBX : Hid (∀ w', Below B wr w' → RcBox x w w') := fun w' hb => HB.out.belowB HX0.out hb HLT.out
   have HPC : Hid (∀ w', Below B wr w' → w'.cell? ⟨b, off + k * 2, none⟩ = some (.string y.n) ∧ w'.cell? ⟨b, off + k * 2 + 1, none⟩ = some (.string y.v)) := fun w' hb => by
    have hb' := (HBX.out w' hb).b
    exact ⟨(hb'.cell (p := ⟨b, off + k * 2, none⟩) hbB).trans (hr k y hy 0 _ rfl), (hb'.cell (p := ⟨b, off + k * 2 + 1, none⟩) hbB).trans (hr k y hy 1 _ rfl)⟩
   have HOwr := zh HLS.out.1
   have HLN := zh HLS.out.2.1
   have HWD : Hid (∀ sp : Option Addr, wordsOf (ls0 ++ [(⟨sp, 3, 3, [envW, y.n, y.v]⟩ : Ln)]) = headR x ++ envR (x.v.take (k + 1))) := fun sp => by
    rw [wordsOf_appR, HLS.out.2.2, envR_snoc hy, List.append_assoc]; simp [wordsOf]
   have HSwr : Hid (Blks B wr wr []) := Blks.start (Below.refl _ _) HK.out
   clear hkl hr hy hv1 hbB hcap HLS HB HK
   go_wp2_with fail
   clear c5
   refine wp_region_held_drew (S := fun w' => Below B wr w') (by kernel_rfl) HSwr.out.b.drew (fun hHeld => ?_)
   refine zv 0 rfl ?_
   refine zv 1 rfl ?_
   refine zx 2 rfl (v := ?_) ?_ ?_; rotate_left
   ·intro w' hSw; have k1 := (HBX.out w' hSw).c5; rw [HV1.out] at k1; go_simp; try with_reducible rfl
   refine zv 3 rfl ?_
   refine zv 4 rfl ?_
   refine zv 5 rfl ?_
   refine zx 6 rfl (v := ?_) ?_ ?_; rotate_left
   ·intro w' hSw; have k2 := (HPC.out w' hSw).1; go_simp; try with_reducible rfl
   refine zv 7 rfl ?_
   refine zx 8 rfl (v := ?_) ?_ ?_; rotate_left
   ·intro w' hSw; have k1 := (HBX.out w' hSw).c5; rw [HV1.out] at k1; go_simp; try with_reducible rfl
   refine zv 9 rfl ?_
   refine zv 10 rfl ?_
   refine zv 11 rfl ?_
   refine zx 12 rfl (v := ?_) ?_ ?_; rotate_left
   ·intro w' hSw; have k2 := (HPC.out w' hSw).2; go_simp; try with_reducible rfl
   refine zr 13 rfl (fun K hK => ?_)
   first | (rw [if_pos (by rfl)]; refine wp_slice_eqR 22 3 [(0, .const (.string ⟨#[101, 110, 118]⟩)), (1, .tmp 40), (2, .tmp 46)] rfl [(0, .string envW), (1, .string y.n), (2, .string y.v)] rfl _ _ (sliceE3 _ _ _) ?_) | skip
   obtain ⟨g3, v1, hg, hw, HSv1, HEv1⟩ := HSwr.out.allocdD (.cells ([envW, y.n, y.v].map Value.string).toArray 9 (0, 0))
   go_simp
   try rw [hg]
   generalize hq : World.drew (World.alloc wr _) = q
   obtain rfl : v1 = q := hw.symm.trans hq
   clear hg hw hq
   have HOv1 := zh (HOwr.out.below HEv1.out)
   have HYv1 : Hid (LnOwnL v1 B ⟨some ⟨g3, 0, none⟩, 3, 3, [envW, y.n, y.v]⟩) := lnOwn_row (HSv1.out.at 0 rfl) (HSv1.out.lt 0 rfl).1 rfl (by decide)
   refine hK.out _ _ HSv1.out.b fun _ => ?_; clear hK K
   refine zr 14 rfl (fun K hK => ?_)
   first | (rw [if_pos (by rfl)]; refine wp_slice_eqR 50 1 [(0, .tmp 47)] rfl [(0, .slice (some ⟨g3, 0, none⟩) 3 3)] rfl _ _ (sliceE1 _ _ _ _) ?_) | skip
   obtain ⟨g4, v2, hg, hw, HSv2, HEv2⟩ := HSv1.out.allocd (.cells #[.slice (some ⟨g3, 0, none⟩) 3 3] 22 (0, 0))
   go_simp
   try rw [hg]
   generalize hq : World.alloc v1 _ = q
   obtain rfl : v2 = q := hw.symm.trans hq
   clear hg hw hq
   have HOv2 := zh (HOv1.out.below HEv2.out)
   have HYv2 := zh (HYv1.out.below HEv2.out)
   refine hK.out _ _ HSv2.out.b fun _ => ?_; clear hK K
   refine zr 15 rfl (fun K hK => ?_)
   rw [if_pos (by rfl)]
   refine wp_append_lns _ _ rfl B _ ls0 (2 + k) HLN.out.symm rfl HOv2.out g4 ⟨some ⟨g3, 0, none⟩, 3, 3, [envW, y.n, y.v]⟩ rfl (heap_cellR (L := [.slice (some ⟨g3, 0, none⟩) 3 3]) (HSv2.out.at 0 rfl) rfl) HYv2.out (by omega) HSv2.out.k ?_
   intro sp1 cap1 v3 HLv3 HBB HGR
   have HSv3 : Hid (Blks B wr v3 []) := Blks.start (HSv2.out.b.trans HBB.out) (Nat.le_trans HSv2.out.k HBB.out.size)
   clear HBB HGR
   refine hK.out _ _ HSv3.out.b fun _ => ?_; clear hK K
   refine zv 16 rfl ?_
   refine zd ?_ _
   go_wp2_with fail
   go_roundw
   case rel => exact ⟨k + 1, sp1, cap1, _, by omega, rfl, by go_num, ⟨HLv3.out, (by rw [List.length_append, HLN.out]; rfl), HWD.out _⟩, HBX.out v3 HSv3.out.b, HSv3.out.k⟩
   case measure => simp [intOf]; omega
  ·obtain rfl : k = x.vn := by omega
   have hd : decide ((x.vn : Int) < (x.vn : Int)) = false := by simp
   have HLwr := zh HLS.out.1
   have HLNw := zh HLS.out.2.1
   have HWw : Hid (wordsOf ls0 = headR x ++ envR x.v) := by
    show _ = _
    rw [HLS.out.2.2, List.take_of_length_le (by rw [HB.out.i.v.len]; exact Nat.le_refl _)]
   have HNL6 : Hid (ls0.length ≤ 2000) := by show _ ≤ _; rw [HLNw.out]; have := HVB.out; omega
   have HN6 : Hid (x.mn ≤ 100000) := by show _ ≤ _; have := HMB.out; omega
   have HN7 : Hid (x.pn ≤ 100000) := by show _ ≤ _; have := HPB.out; omega
   have HBwr := HB; have HKwr := HK
   clear HLS HB HK
   have c6 := HBwr.out.c6
   go_wp2_with fail
   refine (refLines_any _ x.m1 x.mn x.mc x.m wr HBwr.out.i.m HN6.out).mono ?_
   rintro e w3 ⟨sq6, cq6, lq6, rfl, hq6, hw6, ho6, hb⟩
   have HBw3 : Hid (RcBox x w w3) := HBwr.out.below hb
   have HLw3 := zh (HLwr.out.below hb)
   have HO6 := zh (ho6.lower (show B ≤ wr.heap.size from HKwr.out))
   have HKw3 : Hid (B ≤ w3.heap.size) := Nat.le_trans HKwr.out hb.size
   have HQ6 := zh hq6; have HW6 := zh hw6
   clear hb ho6 hq6 hw6 c6 HBwr HLwr HKwr
   go_wp2_with (refine wpList_plain rfl fun _ hK => wp_append_lnsR _ _ rfl B _ ls0 rfl HLw3.out sq6 x.mn cq6 lq6 HQ6.out rfl HO6.out (by have := HNL6.out; omega) (by have := HN6.out; omega) HKw3.out (fun sp6' cap6' w4 HLw4 HBB6 => hK _ _ ?_); have HBw4 : Hid (RcBox x w w4) := HBw3.out.belowB HX0.out HBB6.out HLT.out; have c7 := HBw4.out.c7)
   have HKw4 : Hid (B ≤ w4.heap.size) := Nat.le_trans HKw3.out HBB6.out.size
   clear HBB6 HBw3 HLw3 HKw3 HO6
   have HNL7 : Hid ((ls0 ++ lq6).length ≤ 4000) := by show _ ≤ _; rw [List.length_append, HQ6.out]; have := HNL6.out; have := HMB.out; omega
   refine (refLines_any _ x.p1 x.pn x.pc x.p w4 HBw4.out.i.p HN7.out).mono ?_
   rintro e w5 ⟨sq7, cq7, lq7, rfl, hq7, hw7, ho7, hb⟩
   have HBw5 : Hid (RcBox x w w5) := HBw4.out.below hb
   have HLw5 := zh (HLw4.out.below hb)
   have HO7 := zh (ho7.lower (show B ≤ w4.heap.size from HKw4.out))
   have HKw5 : Hid (B ≤ w5.heap.size) := Nat.le_trans HKw4.out hb.size
   have HQ7 := zh hq7; have HW7 := zh hw7
   clear hb ho7 hq7 hw7 c7 HBw4 HLw4 HKw4
   go_wp2_with (refine wpList_plain rfl fun _ hK => wp_append_lnsR _ _ rfl B _ (ls0 ++ lq6) rfl HLw5.out sq7 x.pn cq7 lq7 HQ7.out rfl HO7.out (by have := HNL7.out; omega) (by have := HN7.out; omega) HKw5.out (fun sp7' cap7' w6 HLw6 HBB7 => hK _ _ ?_); have HBw6 : Hid (RcBox x w w6) := HBw5.out.belowB HX0.out HBB7.out HLT.out)
   have HKw6 : Hid (B ≤ w6.heap.size) := Nat.le_trans HKw5.out HBB7.out.size
   clear HBB7 HBw5 HLw5 HKw5 HO7
   have HWE : Hid (wordsOf ((ls0 ++ lq6) ++ lq7) = linesR x) := by
    show _ = _
    rw [wordsOf_appR, wordsOf_appR, HWw.out, HW6.out, HW7.out]; rfl
   have hll : ((ls0 ++ lq6) ++ lq7).length = (ls0 ++ lq6).length + x.pn := by rw [List.length_append, HQ7.out]
   go_wp2_with fail
   have HLI : Hid (LinesIn w6 w6.heap.size sp7' (ls0.length + lq6.length + x.pn) ((ls0 ++ lq6) ++ lq7)) := by show LinesIn _ _ _ _ _; rw [← List.length_append]; exact HLw6.out.lines hll
   refine (refEncode_any _ _ _ _ w6 HLI.out (by have h1 := HNL7.out; have h2 := HN7.out; rw [List.length_append] at h1; omega) (fun q hq => (HLw6.out.each q hq).le)).mono ?_
   rintro e w7 ⟨v, rfl, hown, hb⟩
   rw [HWE.out] at hown ⊢
   have HO : Hid (w7.ownsRow w.heap.size 5 1 v (enc (linesR x)).2.length (Lib.byteCells (enc (linesR x)).2)) := own_lower hown.out HBw6.out.b.size
   have HB7 : Hid (Below w.heap.size w w7) := HBw6.out.b.trans (hb.mono HBw6.out.b.size)
   clear hown hb
   go_wp2_with fail
   go_ret2
   exact ⟨v, by rw [HE.out]; rfl, by rw [HE.out]; exact HO, HB7.out⟩
theorem wpList_load_mid_gR {P : Program} {ops : Array Oper} {rest : List Oper} {o : Oper} {a : Act} {w : World} {Q : Exit → Act → World → Prop} (hw : Region.wanted o (yielded ops a.tmps) = true) (ty : TypeId) (x : Operand) (ho : o.op = .load ty x)
 (b k : Nat) (hx : a.eval x = .pointer (some ⟨b, k, none⟩)) (cs : List Value) (d : TypeDesc) (hc : w.rangeAt b k cs)
 (hu : P.underlying ty = some d) (hd : d.isRow = true) (hi : (P.info? ty).map (·.size) = some cs.length)
 (h : wpList P ops Q rest (a.put o.dst (.agg cs.toArray)) w) : wpList P ops Q (o :: rest) a w :=
 wpList_step fun K hK => by rw [if_pos hw]; exact wp_load_mid ty x ho b k hx cs d hc hu hd hi (hK _ _ h)
theorem row_rngR {w : World} {g : Nat} {L : List Value} {t : TypeId} {fr : Nat × Nat} (hg : w.heap[g]? = some (.cells L.toArray t fr)) : w.rangeAt g 0 L := fun j v hv => by rw [Nat.zero_add]; exact heap_cellR hg hv
theorem awake12_any (w : World) (ht : Lib.TabIs Tryd.prog w "internal/strconv.uint64pow10" .u64 Lib.pow10Tab) (hg : 0 < w.heap.size) :
 Calls Tryd.prog 9 #[] w fun e w' => e = .returned (.bool true) ∧ Below w.heap.size w w' := by
 have HT := zh ht
 have HSC : Hid (scpB ⟨#[97, 47, 98]⟩ = true) := by show _ = _; decide +kernel
 have hB := buildR0 w
 go_enter Tryd.func9, Tryd.ntmps9
 go_upto_region 2 with (refine wpList_store_row rfl 26 _ _ rfl w.heap.size r0L.toArray rfl rfl 26 _ (heap_alloc_new w _) infoR0A rfl oneR0 ?_; rw [setRow_new])
 generalize hw0 : World.alloc w _ = w0
 have HR0 : Hid (w0.heap[w.heap.size]? = some (.cells r0L.toArray 26 (0, 0))) := by rw [← hw0]; exact heap_alloc_new _ _
 have HB0 : Hid (Below w.heap.size w w0) := by rw [← hw0]; exact (Below.refl _ _).alloc (Nat.le_refl _) _
 have hlt : w.heap.size < w0.heap.size := by rw [← hw0]; simp
 clear hw0 hB
 have HE := zh (encode0_any w0 (tabIs_belowR HT.out HB0.out hg) (Nat.lt_trans hg hlt))
 go_wp2_with (refine wpList_load_row rfl 26 _ rfl w.heap.size rfl 26 _ (0, 0) _ HR0.out Tryd.underlying26 rfl infoR0A ?_)
 refine HE.out.mono ?_
 rintro e w1 ⟨v, rfl, hown, hb⟩
 have hcv := run_string_own hown.out
 have HR1 := zh (row_rngR ((hb.block _ hlt).trans HR0.out))
 have HB1 : Hid (Below w.heap.size w w1) := HB0.out.trans (hb.mono HB0.out.size)
 have hlt1 : w.heap.size < w1.heap.size := by have := hb.size; omega
 clear hown hb HR0 HB0 hlt HE HT ht hg
 have HBS : Hid ((⟨bs0.toArray⟩ : ByteArray) = ⟨#[114, 101, 99, 111, 114, 100, 32, 114, 32, 126, 32, 115, 32, 51, 10, 99, 111, 109, 109, 97, 110, 100, 10]⟩) := rfl
 rw [HBS.out] at hcv
 go_wp2_with (refine wpList_load_mid_gR (by rfl) 26 _ rfl w.heap.size 0 rfl _ _ HR1.out Tryd.underlying26 rfl infoR0 ?_)
 refine (valid0_any w1).mono ?_
 rintro e w2 ⟨rfl, hb⟩
 have HB2 : Hid (Below w.heap.size w w2) := HB1.out.trans (hb.mono HB1.out.size)
 clear hb hcv HR1 HB1 hlt1
 go_wp2_with fail
 refine (Scope_any ⟨#[97, 47, 98]⟩ w2 (by decide)).mono ?_
 rintro e w3 ⟨rfl, hb⟩
 rw [HSC.out]
 have HB3 : Hid (Below w.heap.size w w3) := HB2.out.trans (hb.mono HB2.out.size)
 clear hb
 go_wp2_with fail
 go_ret
 exact ⟨rfl, HB3.out⟩
structure DpS (w : World) (bx : Nat) (d : List Int) (W : World) : Prop where
 below : Below w.heap.size w W
 box : W.heap[bx]? = some (.cells (d.map (Value.int .u8)).toArray 44 (0, 0))
theorem DpS.lt {w : World} {bx : Nat} {d : List Int} {W : World} (h : DpS w bx d W) : bx < W.heap.size := (Array.getElem?_eq_some_iff.1 h.box).1
theorem DpS.next {w : World} {bx : Nat} {d : List Int} {W W' : World} (h : DpS w bx d W) (hb : Below W.heap.size W W') : DpS w bx d W' :=
 ⟨h.below.trans (hb.mono h.below.size), (hb.block bx h.lt).trans h.box⟩
theorem DpS.row {w : World} {bx : Nat} {d : List Int} {W : World} (h : DpS w bx d W) : W.rangeAt bx 0 (d.map (Value.int .u8)) := range_row (pre := []) (post := []) h.box (by simp) rfl
structure IntsT (w : World) (B : Nat) (sp : Option Addr) (n cap : Nat) (l : List Int) : Prop where
 len : l.length = n
 cells : 0 < n → ∃ b off, sp = some ⟨b, off, none⟩ ∧ b < B ∧ n ≤ cap ∧ ∀ i v, l[i]? = some v → w.cell? ⟨b, off + i, none⟩ = some (.int .i64 v)
 wide : ∀ v ∈ l, -9223372036854775808 ≤ v ∧ v ≤ 9223372036854775807
 short : n ≤ 9223372036854775807
theorem IntsT.tape {w : World} {sp : Option Addr} {n cap : Nat} {l : List Int} (h : IntsT w w.heap.size sp n cap l) : TpIn (w.alloc (.cells #[.slice sp n cap, .int .i64 0] 39)) w.heap.size sp n cap l 0 :=
 ⟨heap_alloc_new w _, h.len, fun hn => by
  obtain ⟨b, off, e, hlt, hc, hr⟩ := h.cells hn
  exact ⟨b, off, e, hlt, hc, fun i v hi => (((Below.refl w.heap.size w).alloc (Nat.le_refl _) _).cell (p := ⟨b, off + i, none⟩) hlt).trans (hr i v hi)⟩, h.wide, h.short⟩
theorem recordEncodes_any (raw : Rc) (tsp : Option Addr) (tn tcap : Nat) (tl : List Int) (w : World) (hx : RcAt raw w) (ht : TapeIn w tsp tn tcap tl) (hp : Lib.TabIs Tryd.prog w "internal/strconv.uint64pow10" .u64 Lib.pow10Tab) (hg : 0 < w.heap.size) :
 Calls Tryd.prog 3 #[.agg raw.L.toArray, .slice tsp tn tcap] w fun e w' => e = .returned (.bool true) ∧ Below w.heap.size w w' := by
 have hb0 : Below w.heap.size w (w.alloc (.cells raw.L.toArray 26)) := (Below.refl _ _).alloc (Nat.le_refl _) _
 have HR0 : Hid ((w.alloc (.cells raw.L.toArray 26)).heap[w.heap.size]? = some (.cells raw.L.toArray 26 (0, 0))) := heap_alloc_new _ _
 have HX0 := zh (hx.below hb0); have HT0 := zh (ht.below hb0); have HB0 := zh hb0
 have HP := zh hp; have HG := zh hg
 clear hx ht hb0 hp hg
 go_enter Tryd.func3, Tryd.ntmps3
 go_upto_region 1 with fail
 generalize World.alloc w _ = w0 at *
 have HRS := zh (records_any raw tsp tn tcap tl w0 HX0.out HT0.out)
 clear HX0 HT0
 go_wp2_with (refine wpList_load_row rfl 26 _ rfl w.heap.size rfl 26 _ (0, 0) _ HR0.out Tryd.underlying26 rfl (infoRcA raw) ?_)
 refine HRS.out.mono ?_
 rintro e w1 ⟨sp, n, cap, l, rfl, hin, hn3, hb⟩
 have HIN := zh hin
 have HB1 : Hid (Below w.heap.size w w1) := HB0.out.trans (hb.mono HB0.out.size)
 clear hin hb HRS HR0 HB0
 go_wp2_with fail
 go_loopw [15] (fun i wr => ∃ k : Nat, i = .int .i64 k ∧ k ≤ n ∧ Hid (RcsIn wr sp n cap l) ∧ Hid (Below w.heap.size w wr)) (fun i _ => n - (intOf i).toNat)
 case atStart => exact ⟨0, rfl, by omega, HIN.out, HB1.out⟩
 case round =>
  obtain ⟨k, rfl, hk2, HI, HB⟩ := hrel
  clear HIN HB1
  by_cases hlt : k < n
  ·have hd : decide ((k : Int) < (n : Int)) = true := by simp; omega
   obtain ⟨b, off, rfl, hbl, hcap, hcell⟩ := HI.out.cells (by omega)
   have hkl : k < l.length := by have := HI.out.len; omega
   obtain ⟨x, hxk⟩ : ∃ x, l[k]? = some x := ⟨_, List.getElem?_eq_getElem hkl⟩
   have HROW := zh (hcell k x hxk)
   have HXI := zh (HI.out.recs x (List.mem_of_getElem? hxk))
   clear hcell hkl hxk hbl hcap
   have p1 : (0 : Int) ≤ (k : Int) := by omega
   have p2 : (k : Int) < (n : Int) := by omega
   have HZS := zh (heap_alloc_new wr (.cells zRc 26))
   go_upto_region 4 with (first
    | (refine wpList_load_mid rfl 26 _ rfl b (off + k * 8) rfl _ _ HROW.out Tryd.underlying26 rfl (infoRc x) ?_)
    | (refine wpList_store_row rfl 26 _ _ rfl wr.heap.size x.L.toArray rfl rfl 26 _ HZS.out (infoRcA x) rfl (oneRc x) ?_; rw [setRow_new]; have HBr4 : Hid (Below wr.heap.size wr (wr.alloc (.cells x.L.toArray 26))) := (Below.refl _ _).alloc (Nat.le_refl _) _; have HX4 : Hid ((wr.alloc (.cells x.L.toArray 26)).heap[wr.heap.size]? = some (.cells x.L.toArray 26 (0, 0))) := heap_alloc_new _ _; clear HZS; generalize World.alloc wr (.cells x.L.toArray 26) = w4 at *))
   obtain ⟨gX, hgX⟩ : ∃ gX, gX = wr.heap.size := ⟨_, rfl⟩
   have HGE : Hid (w.heap.size ≤ gX) := by show _ ≤ _; rw [hgX]; exact HB.out.size
   rw [← hgX] at HX4
   rw [← hgX]
   have HLX4 : Hid (gX < w4.heap.size) := (Array.getElem?_eq_some_iff.1 HX4.out).1
   have HXI4 : Hid (RcIn x w4) := HXI.out.below HBr4.out
   have HIN4 : Hid (RcsIn w4 (some ⟨b, off, none⟩) n cap l) := HI.out.up HBr4.out
   have HB4 : Hid (Below w.heap.size w w4) := HB.out.trans (HBr4.out.mono HB.out.size)
   have hs4 := HB4.out.size
   have HEN := zh (encodeR_any x w4 HXI4.out (tabIs_belowR HP.out HB4.out HG.out) (Nat.lt_of_lt_of_le HG.out hs4))
   clear hgX HBr4 HROW HXI HI HB hs4
   go_wp2_with (refine wpList_load_row rfl 26 _ rfl gX rfl 26 _ (0, 0) _ HX4.out Tryd.underlying26 rfl (infoRcA x) ?_)
   refine HEN.out.mono ?_
   rintro e w5 ⟨v1, rfl, hv1, hb5⟩
   have HV5 := zh hv1; have HB45 := zh hb5
   clear hv1 hb5 HEN
   have HX5 : Hid (w5.heap[gX]? = some (.cells x.L.toArray 26 (0, 0))) := (HB45.out.block _ HLX4.out).trans HX4.out
   have HREN := zh (rencodeR_any x w5 (HXI4.out.below HB45.out))
   go_upto_region 5 with fail
   go_wp2_with (refine wpList_load_row rfl 26 _ rfl gX rfl 26 _ (0, 0) _ HX5.out Tryd.underlying26 rfl (infoRcA x) ?_)
   refine HREN.out.mono ?_
   rintro e w6 ⟨v2, rfl, hv2, hb6⟩
   have HB46 : Hid (Below w4.heap.size w4 w6) := HB45.out.trans (hb6.mono HB45.out.size)
   have HV6 := zh (own_below HV5.out.out hb6)
   have HV6b := hv2
   have HX6 : Hid (w6.heap[gX]? = some (.cells x.L.toArray 26 (0, 0))) := (HB46.out.block _ HLX4.out).trans HX4.out
   have HXI6 : Hid (RcIn x w6) := HXI4.out.below HB46.out
   have HIN6 : Hid (RcsIn w6 (some ⟨b, off, none⟩) n cap l) := HIN4.out.up HB46.out
   have HB6 : Hid (Below w.heap.size w w6) := HB4.out.trans (HB46.out.mono HB4.out.size)
   obtain ⟨BX, hX⟩ : ∃ BX, BX = w6.heap.size := ⟨_, rfl⟩
   have HX0 := zh hX
   have HLX : Hid (gX < BX) := by show _ < _; rw [hX]; exact (Array.getElem?_eq_some_iff.1 HX6.out).1
   have HLW : Hid (w.heap.size < BX) := Nat.lt_of_le_of_lt HGE.out HLX.out
   have HSw6 : Hid (Blks BX w6 w6 []) := Blks.start (Below.refl _ _) (Nat.le_of_eq hX)
   obtain ⟨v, hv⟩ : ∃ v, v = rcB x := ⟨_, rfl⟩
   have HCV : Hid (∀ w', Below BX w6 w' → Calls Tryd.prog 7 #[.agg x.L.toArray] w' fun e w'' => e = .returned (.bool v) ∧ Below w'.heap.size w' w'') := fun w' hb => by
    rw [hv]; exact validR_any x w' (HXI6.out.below (by rw [← HX0.out]; exact hb))
   have HCR : Hid (∀ w', Below BX w6 w' → Calls Tryd.prog 8 #[.agg x.L.toArray] w' fun e w'' => e = .returned (.bool v) ∧ Below w'.heap.size w' w'') := fun w' hb => by
    rw [hv]; exact rvalidR_any x w' (HXI6.out.below (by rw [← HX0.out]; exact hb))
   clear hv hX hv2 hb6 HREN HV5 HB45 HX5 HB46 HIN4 HB4 HXI4 HX4 HLX4 HXI6
   have hvv : (v != v) = false := by simp
   generalize (encR x).2 = X at *
   generalize (encR x).1 = E at *
   go_upto_region 6 with fail
   refine wp_region_held_drew (S := fun w' => Below BX w6 w') (by kernel_rfl) HSw6.out.b.drew (fun hHeld => ?_)
   refine' zk 0 rfl (v := _) (yieldsIf_load_mid (by rfl) _ _ rfl _ _ rfl _ _ ?hS0n1 Tryd.underlying26 rfl (infoRc x)) ?rest0n1
   case hS0n1 =>
    intro w' hSw
    exact row_rngR (L := x.L) ((hSw.block _ HLX.out).trans HX6.out)
   try simp only [Act.put, zA, zB, zC, zD, zY, zF]
   refine' zk 2 rfl (v := _) (yieldsIf_load_mid (by rfl) _ _ rfl _ _ rfl _ _ ?hS2n2 Tryd.underlying26 rfl (infoRc x)) ?rest2n2
   case hS2n2 =>
    intro w' hSw
    exact row_rngR (L := x.L) ((hSw.block _ HLX.out).trans HX6.out)
   try simp only [Act.put, zA, zB, zC, zD, zY, zF]
   refine zr 1 rfl (fun K hK => ?_)
   go_simp
   with_reducible refine (HCV.out _ (HSw6.out.drew).b).mono ?_
   rintro e v1 ⟨rfl, hb⟩
   have HSv1 := zh (HSw6.out.call ((Below.refl _ _).drew.trans hb))
   clear hb
   go_wp2_with fail
   refine hK.out _ _ HSv1.out.b fun _ => ?_; clear hK K
   refine zr 3 rfl (fun K hK => ?_)
   go_simp
   with_reducible refine (HCR.out _ (HSv1.out).b).mono ?_
   rintro e v2 ⟨rfl, hb⟩
   have HSv2 := zh (HSv1.out.call hb)
   clear hb
   go_wp2_with fail
   refine hK.out _ _ HSv2.out.b fun _ => ?_; clear hK K
   refine zv 4 rfl ?_
   refine zv 5 rfl ?_
   refine zv 6 rfl ?_
   refine zv 7 rfl ?_
   refine zv 8 rfl ?_
   refine zv 9 rfl ?_
   refine zv 10 rfl ?_
   refine zv 11 rfl ?_
   refine zx 12 rfl (v := ?_) ?_ ?_; rotate_left
   ·intro w' hSw; have hst := run_string_own (own_below HV6.out (by rw [← HX0.out]; exact hSw)); go_simp; try with_reducible rfl
   refine zv 13 rfl ?_
   refine zx 14 rfl (v := ?_) ?_ ?_; rotate_left
   ·intro w' hSw; have hst := run_string_own (own_below HV6b.out (by rw [← HX0.out]; exact hSw)); go_simp; try with_reducible rfl
   refine zv 15 rfl ?_
   refine zv 16 rfl ?_
   refine zd ?_ _
   go_wp2_with fail
   go_roundw
   case rel => exact ⟨k + 1, by go_num, by omega, HIN6.out.up (show Below w6.heap.size w6 v2 from by rw [← HX0.out]; exact HSv2.out.b), HB6.out.trans (show Below w.heap.size w6 v2 from HSv2.out.b.mono (Nat.le_of_lt HLW.out))⟩
   case measure => simp [intOf]; omega
  ·obtain rfl : k = n := by omega
   have hd : decide ((k : Int) < (k : Int)) = false := by simp
   have HA := zh (awake12_any wr (tabIs_belowR HP.out HB.out HG.out) (Nat.lt_of_lt_of_le HG.out HB.out.size))
   go_wp2_with fail
   refine HA.out.mono ?_
   rintro e w9 ⟨rfl, hb⟩
   have HB9 : Hid (Below w.heap.size w w9) := HB.out.trans (hb.mono HB.out.size)
   clear hb HA
   go_wp2_with fail
   go_ret
   exact ⟨rfl, HB9.out⟩
theorem recordEncodes_args (raw : Rc) (tsp : Option Addr) (tn tcap : Nat) (tl : List Int) (w : World) (hx : RcAt raw w) (ht : IntsT w w.heap.size tsp tn tcap tl) (hp : Lib.TabIs Tryd.prog w "internal/strconv.uint64pow10" .u64 Lib.pow10Tab) (hg : 0 < w.heap.size) :
 Calls Tryd.prog 3 #[.agg raw.L.toArray, .slice tsp tn tcap] w fun e w' => e = .returned (.bool true) ∧ Below w.heap.size w w' :=
 recordEncodes_any raw tsp tn tcap tl w hx ⟨ht.len, ht.cells, ht.wide, ht.short⟩ hp hg
end Go.Proofs.YtecllfbadciaoaaDoor
namespace Go.Proofs.YtecllfbadciaoaaDoor
open Go.ChangeShapes Go.WideShapes Go.ChangeAt Go.RowKit
theorem digest_cellsD {H : Type} {enc : TypeId × Value → H} {W : World} {base fuel : Nat} {spare : Nat → Bool} {held : Bool} {cs : List Value} {x : DataW H × List MemPlace}
 (h : DataW.trod enc Tryd.prog W base spare held fuel 44 cs = some x) : ∃ L : List Int, cs = L.map (Value.int .u8) ∧ D32 L := by
 have c5 : Tryd.prog.cellsOf 5 = 1 := by kernel_rfl
 have c25 : Tryd.prog.cellsOf 44 = 32 := by kernel_rfl
 obtain ⟨xs, m, _, _, hl, hx, hall⟩ := DataW.trod_array Tryd.underlying44 h
 rw [c25] at hl
 rw [c5] at hall
 have each : ∀ i, (hi : i < cs.length) → cs[i] = .int .u8 (intOf cs[i]) ∧ 0 ≤ intOf cs[i] ∧ intOf cs[i] < 256 := by
  intro i hi
  have h1 := hall i (by omega)
  rw [List.getElem?_eq_getElem (by omega)] at h1
  have e1 : (cs.drop (i * 1)).take 1 = [cs[i]] := by
   rw [Nat.mul_one, List.drop_eq_getElem_cons hi, List.take_succ_cons, List.take_zero]
  rw [e1] at h1
  obtain ⟨n, e0, _, wn⟩ := DataW.trod_int Tryd.underlying5 h1
  have hn := bounds_u8 wn
  have e2 : cs[i] = .int .u8 n := by simpa using e0
  rw [e2]
  exact ⟨rfl, by simpa [intOf] using hn.1, by simp [intOf]; omega⟩
 refine ⟨cs.map intOf, ?_, by simp [hl], fun y hy => ?_⟩
 ·apply List.ext_getElem
  ·simp
  ·intro i h1 h2
   simp only [List.getElem_map]
   exact (each i h1).1
 ·obtain ⟨v, hv, rfl⟩ := List.mem_map.1 hy
  obtain ⟨i, hi, rfl⟩ := List.getElem_of_mem hv
  exact (each i hi).2
theorem entry_cells {H : Type} {enc : TypeId × Value → H} {W : World} {base fuel : Nat} {spare : Nat → Bool} {held : Bool} {cs : List Value} {x : DataW H × List MemPlace}
 (h : DataW.trod enc Tryd.prog W base spare held fuel 46 cs = some x) : ∃ y : En, cs = enL y ∧ OkE y := by
 have c1 : Tryd.prog.cellsOf 9 = 1 := by kernel_rfl
 have c32 : Tryd.prog.cellsOf 44 = 32 := by kernel_rfl
 have c33 : Tryd.prog.cellsOf 46 = 33 := by kernel_rfl
 obtain ⟨xs, m, _, _, hl, hx, hall⟩ := DataW.trod_struct Tryd.underlying46 h
 rw [c33] at hl
 have h0 := hall 0 _ rfl
 have h1 := hall 1 _ rfl
 have k : xs.length = 2 := hx
 rw [List.getElem?_eq_getElem (by omega)] at h0 h1
 have h0' : DataW.trod enc Tryd.prog W base spare held m 9 ((cs.drop 0).take 1) = some xs[0] := by rw [← c1]; exact h0
 have h1' : DataW.trod enc Tryd.prog W base spare held m 44 ((cs.drop 1).take 32) = some xs[1] := by rw [← c32]; exact h1
 obtain ⟨s, e0, _, _⟩ := DataW.trod_string Tryd.underlying9 h0'
 obtain ⟨L1, e1, k1⟩ := digest_cellsD h1'
 refine ⟨⟨s, L1⟩, ?_, k1⟩
 show cs = .string s :: L1.map (Value.int .u8)
 rw [← e1]
 have a1 : cs = cs.take 1 ++ cs.drop 1 := (List.take_append_drop 1 cs).symm
 have a3 : (cs.drop 1).take 32 = cs.drop 1 := List.take_of_length_le (by rw [List.length_drop]; omega)
 rw [a3]
 have e0' : cs.take 1 = [.string s] := by rw [List.drop_zero] at e0; exact e0
 rw [e0'] at a1
 exact a1
instance : Inhabited Cg := ⟨⟨ByteArray.empty, [], []⟩⟩
instance : Inhabited En := ⟨⟨ByteArray.empty, []⟩⟩
theorem ens_of_slice {H : Type} {enc : TypeId × Value → H} {W : World} {fuel : Nat} {held : Bool} {da : Option Addr} {n cap : Nat} {x : DataW H × List MemPlace}
 (h : DataW.trod enc Tryd.prog W 0 (fun _ => true) held fuel 24 (Value.slice da n cap).cells.toList = some x) : ∃ l, EnsIn W W.heap.size da n cap l := by
 have c33 : Tryd.prog.cellsOf 46 = 33 := by kernel_rfl
 rcases Go.Deep.open_slice Tryd.underlying24 h with ⟨hcs, _⟩ | ⟨a, len, cap', m, k, D, Pl, hcs, _, hl, hm, hmm, _, hr⟩
 ·simp [Value.cells] at hcs
  obtain ⟨rfl, rfl, rfl⟩ := hcs
  exact ⟨[], ⟨rfl, fun y hy => (by cases hy), fun h => absurd h (by omega)⟩⟩
 ·simp [Value.cells] at hcs
  obtain ⟨rfl, rfl, rfl⟩ := hcs
  simp only [if_true] at hmm
  subst hmm
  unfold maxLen at hm
  rw [c33] at hr
  have each : ∀ i, i < m → ∃ y : En, OkE y ∧ ∀ j, j < 33 → W.cell? ((a.add (i * 33)).add j) = (enL y)[j]? := by
   intro i hi
   obtain ⟨cs', h1, h2⟩ := hr i hi
   obtain ⟨y, rfl, hy⟩ := entry_cells h2
   obtain ⟨_, _, hc⟩ := World.cells?_some h1
   exact ⟨y, hy, fun j hj => hc j (by omega)⟩
  obtain ⟨f, hf⟩ := Go.Deep.choose_lt each
  refine ⟨(List.range n).map f, ⟨by simp, fun y hy => ?_, fun hn => ?_⟩⟩
  ·obtain ⟨i, hi, rfl⟩ := List.mem_map.1 hy
   exact (hf i (by have : i < n := by simpa using hi
                   omega)).1
  ·obtain ⟨b, off, spot⟩ := a
   have h0 := (hf 0 (by omega)).2 0 (by omega)
   have hspot : spot = none := by simpa [Addr.add] using World.cell?_spot (h0.trans (by rfl))
   subst hspot
   refine ⟨b, off, rfl, World.block_lt_of_cell? W _ (by simpa [Addr.add, enL] using h0), hl, fun i y hy j v hv => ?_⟩
   have hi : i < n := by have := (List.getElem?_eq_some_iff.1 hy).1; simpa using this
   have e : y = f i := by rw [List.getElem?_map, List.getElem?_range hi] at hy; exact (Option.some.inj hy).symm
   subst e
   have h1 := hf i (by omega)
   have hj : j < 33 := by have := (List.getElem?_eq_some_iff.1 hv).1; rw [enL_length h1.1] at this; exact this
   have h2 := h1.2 j hj
   rw [Addr.add_mid, Addr.add_mid] at h2
   rw [h2]; exact hv
end Go.Proofs.YtecllfbadciaoaaDoor
