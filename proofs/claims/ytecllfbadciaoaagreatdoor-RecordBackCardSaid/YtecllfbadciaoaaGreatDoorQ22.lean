/-
  The walks of the reference's value and Unword: which word an encoded form stands for (for every string of at most 2^40 bytes).
-/
import Derived.Test.YtecllfbadciaoaaGreatDoorZip
import Derived.Test.YtecllfbadciaoaaGreatDoorQ21
import Derived.WalkSmall
set_option maxRecDepth 100000
set_option maxHeartbeats 8000000
namespace Go.Proofs.YtecllfbadciaoaaGreatDoor
open Go.RowKit
theorem same_any (sp1 sp2 : Option Addr) (n c1 c2 B : Nat) (l : List ByteArray) (w : World) (h1 : StrsIn w B sp1 n l) (h2 : StrsIn w B sp2 n l) (hn : n ≤ 9223372036854775807) :
 Calls Tryz.prog 36 #[.slice sp1 n c1, .slice sp2 n c2] w fun e w' => e = .returned (.bool true) ∧ ∃ m, w' = w.drewN m := by
 have H1 := zh h1; have H2 := zh h2
 clear h1 h2
 go_enter Tryz.func36, Tryz.ntmps36
 go_wp2_with fail
 go_loopw [5] (fun i wr => ∃ k : Nat, k ≤ n ∧ i = .int .i64 k ∧ Hid (∃ m, wr = w.drewN m)) (fun i _ => n - (intOf i).toNat)
 case atStart => exact ⟨0, Nat.zero_le _, rfl, 0, rfl⟩
 case round =>
  obtain ⟨k, hk, rfl, hw⟩ := hrel
  by_cases hlt : k < n
  ·have hd : decide ((k : Int) < (n : Int)) = true := by simp; omega
   have p1 : (0 : Int) ≤ (k : Int) := by omega
   have p2 : (k : Int) < (n : Int) := by omega
   obtain ⟨b1, o1, rfl, _, g1⟩ := H1.out.cells (by omega)
   obtain ⟨b2, o2, rfl, _, g2⟩ := H2.out.cells (by omega)
   have hl := H1.out.len
   have x1 : wr.cell? ⟨b1, o1 + k, none⟩ = some (.string (l[k]'(by omega))) := by
    obtain ⟨m, hm⟩ := hw.out
    rw [hm]; exact g1 k (by omega)
   have x2 : wr.cell? ⟨b2, o2 + k, none⟩ = some (.string (l[k]'(by omega))) := by
    obtain ⟨m, hm⟩ := hw.out
    rw [hm]; exact g2 k (by omega)
   generalize l[k]'(by omega) = x at x1 x2
   have HW : Hid (∀ q, ∃ m, wr.drewN q = w.drewN m) := fun q => by
    obtain ⟨m, hm⟩ := hw.out
    exact ⟨m + q, by rw [hm, World.drewN_drewN]⟩
   clear hw g1 g2 hl
   go_wp2_with fail
   go_quiet (fail)
   go_wp2_with fail
   go_roundw
   case rel => exact ⟨k + 1, by omega, by go_num, HW.out _⟩
   case measure => simp [intOf]; omega
  ·obtain rfl : n = k := by omega
   have hd : decide ((n : Int) < (n : Int)) = false := by simp
   go_wp2_with fail
   go_ret
   exact ⟨rfl, hw.out⟩
theorem fieldsV : (Tryz.prog.fieldsOf 61).toList.map (fun f => (f.name, f.type, f.offset)) = [("Name", 9, 0), ("Value", 9, 1)] := by kernel_rfl
theorem part_s1 (a b : ByteArray) (w : World) : (part 9 #[Value.string a, Value.string b] 1).run Tryz.prog w = .ok (.string b) w := by
 have hu : (underlying 9).run Tryz.prog w = .ok .string w := run_underlying Tryz.underlying9 w
 simp [part, isAgg, hu]
theorem eqIn_V (x : Vr) (w : World) : (Op.equalIn 10000 61 (.agg (vrL x).toArray) (.agg (vrL x).toArray)).run Tryz.prog w = .ok true w := by
 rw [run_equalIn_struct w 9999 _ _ _ (by kernel_rfl) (by kernel_rfl)]
 obtain ⟨f, g, e, ⟨f1, f2, f3⟩, ⟨g1, g2, g3⟩⟩ := two fieldsV
 rw [e]
 have r := eqF_cons (d := 9999) (xs := (vrL x).toArray) (ys := (vrL x).toArray) (f := f) (fs := [g]) (by rw [f1]; decide) (by rw [f2, f3]; exact part_p x.n _ w) (by rw [f2, f3]; exact part_p x.n _ w) (by rw [f2]; exact eqIn_str 9998 x.n x.n w)
  (eqF_cons (by rw [g1]; decide) (by rw [g2, g3]; exact part_s1 x.n x.v w) (by rw [g2, g3]; exact part_s1 x.n x.v w) (by rw [g2]; exact eqIn_str 9998 x.v x.v w) (show (Op.eqFields 9999 _ _ []).run _ w = .ok true w by simp [Op.eqFields]))
 rw [r]
 simp
theorem sameR_any (x y : Rc) (w : World) (hx : RcIn x w) (hy : RcIn y w) (he : x.pl = y.pl) :
 Calls Tryz.prog 10 #[.agg x.L.toArray, .agg y.L.toArray] w fun e w' => e = .returned (.bool true) ∧ Below w.heap.size w w' := by
 have er : y.run = x.run := (congrArg Rp.run he).symm
 have es : y.scp = x.scp := (congrArg Rp.scp he).symm
 have eu : y.stp = x.stp := (congrArg Rp.stp he).symm
 have et : y.t = x.t := (congrArg Rp.t he).symm
 have ec : y.c = x.c := (congrArg Rp.c he).symm
 have ev : y.v = x.v := (congrArg Rp.v he).symm
 have em : y.m = x.m := (congrArg Rp.m he).symm
 have ep : y.p = x.p := (congrArg Rp.p he).symm
 have ecn : y.cn = x.cn := by rw [← hy.c.len, ← hx.c.len, ec]
 have evn : y.vn = x.vn := by rw [← hy.v.len, ← hx.v.len, ev]
 have emn : y.mn = x.mn := by rw [← hy.m.len, ← hx.m.len, em]
 have epn : y.pn = x.pn := by rw [← hy.p.len, ← hx.p.len, ep]
 have HLM : Hid (x.mn ≤ 1000 ∧ x.pn ≤ 1000) := hx.b.2.2.2.2.2
 have HVN : Hid (x.vn ≤ 1000 ∧ x.cn ≤ 1000) := ⟨hx.b.2.2.2.2.1, hx.b.2.2.2.1⟩
 have hb0 : Below w.heap.size w (w.alloc (.cells x.L.toArray 31)) := (Below.refl _ _).alloc (Nat.le_refl _) _
 have hr0 : (w.alloc (.cells x.L.toArray 31)).heap[w.heap.size]? = some (.cells x.L.toArray 31 (0, 0)) := heap_alloc_new _ _
 have HB0 := zh hb0; have HR0 := zh hr0; have HX := zh hx; have HY := zh hy
 clear hb0 hr0 hx hy he
 have HEQ : Hid (y.mn = x.mn ∧ y.pn = x.pn ∧ y.stp = x.stp ∧ y.m = x.m ∧ y.p = x.p) := ⟨emn, epn, eu, em, ep⟩
 go_enter Tryz.func10, Tryz.ntmps10
 go_upto_region 1 with fail
 have hsz : (World.alloc w (.cells x.L.toArray 31)).heap.size = w.heap.size + 1 := by simp
 generalize World.alloc w (.cells x.L.toArray 31) = w0 at *
 have HB1' : Hid (Below w0.heap.size w0 (w0.alloc (.cells y.L.toArray 31))) := (Below.refl _ _).alloc (Nat.le_refl _) _
 have HR1' : Hid ((w0.alloc (.cells y.L.toArray 31)).heap[w0.heap.size]? = some (.cells y.L.toArray 31 (0, 0))) := heap_alloc_new _ _
 generalize World.alloc w0 (.cells y.L.toArray 31) = w1 at *
 have HLT0 : Hid (w.heap.size < w0.heap.size) := (Array.getElem?_eq_some_iff.1 HR0.out).1
 have HRA : Hid (w1.heap[w.heap.size]? = some (.cells x.L.toArray 31 (0, 0))) := (HB1'.out.block _ HLT0.out).trans HR0.out
 have HB1 : Hid (Below w.heap.size w w1) := HB0.out.trans (HB1'.out.mono HB0.out.size)
 obtain ⟨gb, hgb⟩ : ∃ gb, gb = w0.heap.size := ⟨_, rfl⟩
 rw [← hgb] at HR1'
 rw [hsz] at hgb
 rw [← hgb]
 have HRB : Hid (w1.heap[gb]? = some (.cells y.L.toArray 31 (0, 0))) := HR1'.out
 have HGA : Hid (w.heap.size < w1.heap.size) := (Array.getElem?_eq_some_iff.1 HRA.out).1
 have HGB : Hid (gb < w1.heap.size) := (Array.getElem?_eq_some_iff.1 HRB.out).1
 have HX1 := zh (HX.out.below HB1.out); have HY1 := zh (HY.out.below HB1.out)
 clear hgb hsz HB1' HR1' HR0 HB0 HLT0 HX HY
 have a0 : w1.cell? ⟨w.heap.size, 0, none⟩ = some (.string x.run) := heap_cellR HRA.out rfl
 have a1 : w1.cell? ⟨w.heap.size, 1, none⟩ = some (.string x.scp) := heap_cellR HRA.out rfl
 have a3 : w1.cell? ⟨w.heap.size, 3, none⟩ = some (.int .i64 x.t) := heap_cellR HRA.out rfl
 have a4 : w1.cell? ⟨w.heap.size, 4, none⟩ = some (.slice x.c1 x.cn x.cc) := heap_cellR HRA.out rfl
 have a5 : w1.cell? ⟨w.heap.size, 5, none⟩ = some (.slice x.v1 x.vn x.vc) := heap_cellR HRA.out rfl
 have b0 : w1.cell? ⟨gb, 0, none⟩ = some (.string x.run) := by rw [← er]; exact heap_cellR HRB.out rfl
 have b1 : w1.cell? ⟨gb, 1, none⟩ = some (.string x.scp) := by rw [← es]; exact heap_cellR HRB.out rfl
 have b3 : w1.cell? ⟨gb, 3, none⟩ = some (.int .i64 x.t) := by rw [← et]; exact heap_cellR HRB.out rfl
 have b4 : w1.cell? ⟨gb, 4, none⟩ = some (.slice y.c1 x.cn y.cc) := by rw [← ecn]; exact heap_cellR HRB.out rfl
 have b5 : w1.cell? ⟨gb, 5, none⟩ = some (.slice y.v1 x.vn y.vc) := by rw [← evn]; exact heap_cellR HRB.out rfl
 have hsame := (same_any x.c1 y.c1 x.cn x.cc y.cc w1.heap.size x.c w1 HX1.out.c (by rw [← ecn, ← ec]; exact HY1.out.c) (by have := HVN.out.2; omega)).mono (R' := fun e w' => e = .returned (.bool true) ∧ Below w1.heap.size w1 w') (fun e w' h => ⟨h.1, by obtain ⟨m, rfl⟩ := h.2; exact below_drewN (Below.refl _ _) _⟩)
 have HSM := zh hsame
 have A5 := zh a5; have B5 := zh b5
 have HVY : Hid (VrsIn w1 w1.heap.size y.v1 x.vn y.vc x.v) := by show VrsIn _ _ _ _ _ _; rw [← evn, ← ev]; exact HY1.out.v
 clear er es eu et ec ev em ep ecn evn emn epn hsame
 go_wp2_with fail
 refine HSM.out.mono ?_
 rintro e w2 ⟨rfl, hb2⟩
 have HB12 := zh hb2
 have a5 : w2.cell? ⟨w.heap.size, 5, none⟩ = some (.slice x.v1 x.vn x.vc) := (hb2.cell (p := ⟨w.heap.size, 5, none⟩) HGA.out).trans A5.out
 have b5 : w2.cell? ⟨gb, 5, none⟩ = some (.slice y.v1 x.vn y.vc) := (hb2.cell (p := ⟨gb, 5, none⟩) HGB.out).trans B5.out
 clear a0 a1 a3 a4 b0 b1 b3 b4 hb2 HSM
 go_wp2_with fail
 clear a5 b5
 go_loopw [5] (fun i wr => ∃ k : Nat, k ≤ x.vn ∧ i = .int .i64 k ∧ Hid (Below w1.heap.size w1 wr)) (fun i _ => x.vn - (intOf i).toNat)
 case atStart => exact ⟨0, Nat.zero_le _, rfl, HB12.out⟩
 case round =>
  obtain ⟨k, hk, rfl, HBR⟩ := hrel
  have a5 : wr.cell? ⟨w.heap.size, 5, none⟩ = some (.slice x.v1 x.vn x.vc) := (HBR.out.cell (p := ⟨w.heap.size, 5, none⟩) HGA.out).trans A5.out
  by_cases hlt : k < x.vn
  ·have hd : decide ((k : Int) < (x.vn : Int)) = true := by simp; omega
   have hkl : k < x.v.length := by have := HX1.out.v.len; omega
   obtain ⟨z, hz⟩ : ∃ z, x.v[k]? = some z := ⟨_, List.getElem?_eq_getElem hkl⟩
   obtain ⟨b1, o1, hs1, hb1, hc1, hr1⟩ := HX1.out.v.cells (by omega)
   obtain ⟨b2, o2, hs2, hb2, hc2, hr2⟩ := HVY.out.cells (by omega)
   have HRX := zh (hr1 k z hz); have HRY := zh (hr2 k z hz)
   rw [hs1] at a5
   rw [hs1] at A5
   rw [hs2] at B5
   have p1 : (0 : Int) ≤ (k : Int) := by omega
   have p2 : (k : Int) < (x.vn : Int) := by omega
   have hvn := HVN.out.1
   have he := eqIn_V z
   clear hr1 hr2 hz hkl hs1 hs2 hc1 hc2
   go_upto_region 6 with fail
   refine wp_region_held_drew (S := fun w' => Below w1.heap.size w1 w') (by kernel_rfl) HBR.out.drew (fun hHeld => ?_)
   refine zv 0 rfl ?_
   refine zx 1 rfl (v := ?_) ?_ ?_; rotate_left
   ·intro w' hSw; have ce : w'.cell? ⟨w.heap.size, 5, none⟩ = some (.slice (some ⟨b1, o1, none⟩) x.vn x.vc) := (hSw.cell (p := ⟨w.heap.size, 5, none⟩) HGA.out).trans A5.out; go_simp; try with_reducible rfl
   refine zv 2 rfl ?_
   refine zv 3 rfl ?_
   refine' zk 4 rfl (v := _) (yieldsIf_load_mid (by rfl) _ _ rfl _ _ rfl _ _ ?hS4n5 Tryz.underlying61 rfl (infoVr z)) ?rest4n5
   case hS4n5 =>
    intro w' hSw
    exact range_belowR HRX.out hSw hb1
   try simp only [Act.put, zuA, zuB, zuC, zuD, zuY, zuF]
   refine zv 5 rfl ?_
   refine zx 6 rfl (v := ?_) ?_ ?_; rotate_left
   ·intro w' hSw; have ce : w'.cell? ⟨gb, 5, none⟩ = some (.slice (some ⟨b2, o2, none⟩) x.vn y.vc) := (hSw.cell (p := ⟨gb, 5, none⟩) HGB.out).trans B5.out; go_simp; try with_reducible rfl
   refine zv 7 rfl ?_
   refine zv 8 rfl ?_
   refine' zk 9 rfl (v := _) (yieldsIf_load_mid (by rfl) _ _ rfl _ _ rfl _ _ ?hS9n10 Tryz.underlying61 rfl (infoVr z)) ?rest9n10
   case hS9n10 =>
    intro w' hSw
    exact range_belowR HRY.out hSw hb2
   try simp only [Act.put, zuA, zuB, zuC, zuD, zuY, zuF]
   refine zv 10 rfl ?_
   refine zd ?_ _
   clear hHeld
   go_wp2_with fail
   go_roundw
   case rel => exact ⟨k + 1, by omega, by go_num, HBR.out.drew⟩
   case measure => simp [intOf]; omega
  ·obtain rfl : k = x.vn := by omega
   have hd : decide ((x.vn : Int) < (x.vn : Int)) = false := by simp
   go_upto_region 8 with fail
   obtain ⟨B1, hB1⟩ : ∃ B1, B1 = w1.heap.size := ⟨_, rfl⟩
   have HB1E := zh hB1
   have HLX : Hid (w.heap.size < B1 ∧ gb < B1) := by show _ ∧ _; rw [hB1]; exact ⟨HGA.out, HGB.out⟩
   have HSwr : Hid (Blks B1 w1 wr []) := Blks.start (by rw [hB1]; exact HBR.out) (by rw [hB1]; exact HBR.out.size)
   have HCA : Hid (∀ w', Below B1 w1 w' → Calls Tryz.prog 17 #[.agg x.L.toArray] w' (LkAns x w')) := fun w' hb => rlinkR_any x w' (HX1.out.below (by rw [← HB1E.out]; exact hb))
   have HCB : Hid (∀ w', Below B1 w1 w' → Calls Tryz.prog 17 #[.agg y.L.toArray] w' (LkAns x w')) := fun w' hb => (rlinkR_any y w' (HY1.out.below (by rw [← HB1E.out]; exact hb))).mono fun e w'' h => by
    obtain ⟨e1, e2, e3, e4, e5⟩ := HEQ.out
    unfold LkAns at h ⊢
    rw [e1, e2, e3, e4, e5] at h
    exact h
   clear hB1 A5 B5 HVY HX1 HY1 HEQ HGA HGB a5 HB12
   refine wp_region_held_drew (S := fun w' => Below B1 w1 w') (by kernel_rfl) HSwr.out.b.drew (fun hHeld => ?_)
   refine' zk 0 rfl (v := _) (yieldsIf_load_mid (by rfl) _ _ rfl _ _ rfl _ _ ?hS0n12 Tryz.underlying31 rfl (infoRc x)) ?rest0n12
   case hS0n12 =>
    intro w' hSw
    exact row_rngR (L := x.L) ((hSw.block _ HLX.out.1).trans HRA.out)
   try simp only [Act.put, zuA, zuB, zuC, zuD, zuY, zuF]
   refine' zk 2 rfl (v := _) (yieldsIf_load_mid (by rfl) _ _ rfl _ _ rfl _ _ ?hS2n13 Tryz.underlying31 rfl (infoRc y)) ?rest2n13
   case hS2n13 =>
    intro w' hSw
    exact row_rngR (L := y.L) ((hSw.block _ HLX.out.2).trans HRB.out)
   try simp only [Act.put, zuA, zuB, zuC, zuD, zuY, zuF]
   refine zr 1 rfl (fun K hK => ?_)
   go_simp
   with_reducible refine (HCA.out _ (HSwr.out.drew).b).mono ?_
   rintro e v1 ⟨q1, d1, q2, d2, rfl, he1, he2, hb⟩
   have HSv1 := zh (HSwr.out.call ((Below.refl _ _).drew.trans hb))
   have HEav1 := zh (EnX.of he1.out)
   have HEbv1 := zh (EnX.of he2.out)
   clear he1 he2
   clear hb
   go_wp2_with fail
   refine hK.out _ _ HSv1.out.b fun _ => ?_; clear hK K
   refine zr 3 rfl (fun K hK => ?_)
   go_simp
   with_reducible refine (HCB.out _ (HSv1.out).b).mono ?_
   rintro e v2 ⟨f1, g1, f2, g2, rfl, he1, he2, hb⟩
   have HSv2 := zh (HSv1.out.call hb)
   have HEav2 := zh (HEav1.out.below hb)
   have HEbv2 := zh (HEbv1.out.below hb)
   have HEcv2 := zh (EnX.of he1.out)
   have HEdv2 := zh (EnX.of he2.out)
   clear he1 he2
   clear hb
   go_wp2_with fail
   refine hK.out _ _ HSv2.out.b fun _ => ?_; clear hK K
   refine zr 4 rfl (fun K hK => ?_)
   go_simp
   with_reducible refine (sameLinkR_any x.stp q1 x.mn d1 x.m q2 x.pn d2 x.p f1 g1 f2 g2 _ HEav2.out.i HEbv2.out.i HEcv2.out.i HEdv2.out.i HLM.out.1 HLM.out.2).mono ?_
   rintro e v3 ⟨rfl, hb⟩
   have HSv3 := zh (HSv2.out.call hb)
   have HEav3 := zh (HEav2.out.below hb)
   have HEbv3 := zh (HEbv2.out.below hb)
   have HEcv3 := zh (HEcv2.out.below hb)
   have HEdv3 := zh (HEdv2.out.below hb)
   clear hb
   go_wp2_with fail
   refine hK.out _ _ HSv3.out.b fun _ => ?_; clear hK K
   refine zv 5 rfl ?_
   refine zd ?_ _
   go_wp2_with fail
   go_ret
   exact ⟨rfl, HB1.out.trans (show Below w.heap.size w1 v3 from HSv3.out.b.mono (by rw [HB1E.out]; exact HB1.out.size))⟩
theorem while_app {α : Type} (p : α → Bool) : ∀ (A B : List α), (∀ q ∈ A, p q = true) → (∀ q ∈ B, p q = false) → (A ++ B).takeWhile p = A ∧ (A ++ B).dropWhile p = B
 | [], B, _, hB => by
   cases B with
   | nil => exact ⟨rfl, rfl⟩
   | cons b r => have := hB b (by simp); simp [this]
 | a :: A, B, hA, hB => by
   have ha := hA a (by simp)
   obtain ⟨h1, h2⟩ := while_app p A B (fun q hq => hA q (by simp [hq])) hB
   simp [ha, h1, h2]
theorem hdT_ne {a b : ByteArray} (h : a ≠ b) {q : List ByteArray} (hq : hdT a q = true) : hdT b q = false := by
 cases q with
 | nil => rfl
 | cons x r =>
   unfold hdT at hq ⊢
   have := of_decide_eq_true hq
   subst this
   exact decide_eq_false h
theorem ne_rc : recW ≠ cmdW ∧ recW ≠ envW ∧ recW ≠ matW ∧ recW ≠ prdW ∧ cmdW ≠ envW ∧ cmdW ≠ matW ∧ cmdW ≠ prdW ∧ envW ≠ matW ∧ envW ≠ prdW ∧ matW ≠ prdW := by decide
theorem lines_parts {H C : List ByteArray} {E M P : List (List ByteArray)} (hH : hdT recW H = true) (hC : hdT cmdW C = true) (hE : ∀ q ∈ E, hdT envW q = true) (hM : ∀ q ∈ M, hdT matW q = true) (hP : ∀ q ∈ P, hdT prdW q = true)
 {L : List (List ByteArray)} (hL : L = [H] ++ ([C] ++ (E ++ (M ++ (P ++ []))))) : T1 L = [H] ∧ T2 L = [C] ∧ T3 L = E ∧ T4 L = M ∧ T5 L = P ∧ R5 L = [] := by
 obtain ⟨n1, n2, n3, n4, n5, n6, n7, n8, n9, n10⟩ := ne_rc
 subst hL
 have a5 := while_app (hdT prdW) P [] hP (by simp)
 have a4 := while_app (hdT matW) M (P ++ []) hM (fun q hq => by
  rw [List.append_nil] at hq
  exact hdT_ne (Ne.symm n10) (hP q hq))
 have a3 := while_app (hdT envW) E (M ++ (P ++ [])) hE (fun q hq => by
  rw [List.append_nil] at hq
  rcases List.mem_append.1 hq with h | h
  ·exact hdT_ne (Ne.symm n8) (hM q h)
  ·exact hdT_ne (Ne.symm n9) (hP q h))
 have a2 := while_app (hdT cmdW) [C] (E ++ (M ++ (P ++ []))) (by simpa using hC) (fun q hq => by
  rw [List.append_nil] at hq
  rcases List.mem_append.1 hq with h | h
  ·exact hdT_ne (Ne.symm n5) (hE q h)
  ·rcases List.mem_append.1 h with h | h
   ·exact hdT_ne (Ne.symm n6) (hM q h)
   ·exact hdT_ne (Ne.symm n7) (hP q h))
 have a1 := while_app (hdT recW) [H] ([C] ++ (E ++ (M ++ (P ++ [])))) (by simpa using hH) (fun q hq => by
  rw [List.append_nil] at hq
  rcases List.mem_append.1 hq with h | h
  ·rw [List.mem_singleton.1 h]; exact hdT_ne (Ne.symm n1) hC
  ·rcases List.mem_append.1 h with h | h
   ·exact hdT_ne (Ne.symm n2) (hE q h)
   ·rcases List.mem_append.1 h with h | h
    ·exact hdT_ne (Ne.symm n3) (hM q h)
    ·exact hdT_ne (Ne.symm n4) (hP q h))
 refine ⟨a1.1, ?_, ?_, ?_, ?_, ?_⟩
 ·unfold T2 R1; rw [a1.2, a2.1]
 ·unfold T3 R2 R1; rw [a1.2, a2.2, a3.1]
 ·unfold T4 R3 R2 R1; rw [a1.2, a2.2, a3.2, a4.1]
 ·unfold T5 R4 R3 R2 R1; rw [a1.2, a2.2, a3.2, a4.2, a5.1]
 ·unfold R5 R4 R3 R2 R1; rw [a1.2, a2.2, a3.2, a4.2, a5.2]
theorem linesR_split (x : Rc) : linesR x = [[recW, x.run, x.scp, x.stp, numW x.t]] ++ ([cmdW :: x.c] ++ (envR x.v ++ (x.m.map (lineE matW) ++ (x.p.map (lineE prdW) ++ [])))) := by
 unfold linesR headR
 simp
theorem round1 {x : Rc} (hv : rcB x = true) (hm : ∀ e ∈ x.m, OkE e) (hp : ∀ e ∈ x.p, OkE e) : formedR (linesR x) = true ∧ recP (linesR x) = x.pl := by
 obtain ⟨t1, t2, t3, t4, t5, t6⟩ := lines_parts (H := [recW, x.run, x.scp, x.stp, numW x.t]) (C := cmdW :: x.c) (E := envR x.v) (M := x.m.map (lineE matW)) (P := x.p.map (lineE prdW)) (by unfold hdT; simp) (by unfold hdT; simp)
  (fun q hq => by obtain ⟨y, _, rfl⟩ := List.mem_map.1 hq; unfold hdT; simp) (fun q hq => by obtain ⟨y, _, rfl⟩ := List.mem_map.1 hq; unfold hdT lineE; simp) (fun q hq => by obtain ⟨y, _, rfl⟩ := List.mem_map.1 hq; unfold hdT lineE; simp) (linesR_split x)
 have ht : 0 ≤ x.t ∧ x.t ≤ 1099511627776 := by
  unfold rcB rcT at hv
  simp only [Bool.and_eq_true, decide_eq_true_eq] at hv
  exact hv.2.1
 have hn : (numW x.t).data.toList = Lib.itoa x.t := rfl
 have hk := pnk_itoa x.t
 have hk1 : pnk (numW x.t).data.toList = true := by rw [hn, hk.1]; simp [ht]
 have hk2 : pnv (numW x.t).data.toList = x.t := by rw [hn]; exact hk.2 ht.1 ht.2
 constructor
 ·unfold formedR
  rw [t1, t2, t3, t4, t5, t6, rawL_back matW x.m hm, rawL_back prdW x.p hp]
  have h3 : (envR x.v).all len3 = true := by
   rw [List.all_eq_true]
   intro q hq
   obtain ⟨y, _, rfl⟩ := List.mem_map.1 hq
   rfl
  have hok : okT [[recW, x.run, x.scp, x.stp, numW x.t]] = true := by
   unfold okT okH
   simp [hk1]
  rw [h3, hok]
  rfl
 ·unfold recP
  rw [t1, t2, t3, t4, t5, rawL_back matW x.m hm, rawL_back prdW x.p hp]
  have hv3 : (envR x.v).map vrOf = x.v := by
   unfold envR
   rw [List.map_map]
   exact List.map_id'' (fun y => rfl) _
  rw [hv3]
  unfold hdP Rc.pl
  simp only [List.getD_cons_zero, List.getD_cons_succ, Option.getD_some, List.drop_succ_cons, List.drop_zero]
  rw [hk2]
theorem rd1_line {tag : ByteArray} {l : List ByteArray} {x : En} (h : rd1 tag l = some x) : l = lineE tag x := by
 match l, h with
 | [t, p, f], h =>
   have h : (if t = tag then (if ppok f.data.toList = true then some (⟨p, ppby f.data.toList⟩ : En) else none) else none) = some x := h
   by_cases ht : t = tag
   ·rw [if_pos ht] at h
    by_cases hk : ppok f.data.toList = true
    ·rw [if_pos hk] at h
     injection h with h
     subst h
     subst ht
     unfold lineE
     rw [(fmtD_read f hk).1]
    ·rw [if_neg hk] at h; cases h
   ·rw [if_neg ht] at h; cases h
theorem rawL_lines (tag : ByteArray) : ∀ (L : List (List ByteArray)) (l : List En), rawL tag L = some l → L = l.map (lineE tag)
 | [], l, h => by
   unfold rawL at h
   injection h with h
   subst h; rfl
 | q :: L, l, h => by
   cases hq : rd1 tag q with
   | none => rw [rawL_none hq] at h; cases h
   | some x =>
     rw [rawL_some hq] at h
     cases hL : rawL tag L with
     | none => rw [hL] at h; cases h
     | some r =>
       rw [hL] at h
       injection h with h
       subst h
       rw [rd1_line hq, rawL_lines tag L r hL]
       rfl
theorem round2 {L : List (List ByteArray)} (hf : formedR L = true) {x : Rc} (hp : x.pl = recP L) : linesR x = L := by
 unfold formedR at hf
 simp only [Bool.and_eq_true, decide_eq_true_eq] at hf
 obtain ⟨h1, h2, h3, h4, h5, h6⟩ := hf
 have mem : ∀ (p : List ByteArray → Bool) (M : List (List ByteArray)), ∀ q ∈ M.takeWhile p, p q = true := fun p M q hq => by
  have := List.all_takeWhile (l := M) (p := p)
  rw [List.all_eq_true] at this
  exact this q hq
 have eL : L = T1 L ++ (T2 L ++ (T3 L ++ (T4 L ++ (T5 L ++ R5 L)))) := by
  have a1 : T1 L ++ R1 L = L := List.takeWhile_append_dropWhile
  have a2 : T2 L ++ R2 L = R1 L := List.takeWhile_append_dropWhile
  have a3 : T3 L ++ R3 L = R2 L := List.takeWhile_append_dropWhile
  have a4 : T4 L ++ R4 L = R3 L := List.takeWhile_append_dropWhile
  have a5 : T5 L ++ R5 L = R4 L := List.takeWhile_append_dropWhile
  rw [a5, a4, a3, a2, a1]
 have er : x.run = ((T1 L).getD 0 []).getD 1 ByteArray.empty := congrArg Rp.run hp
 have es : x.scp = ((T1 L).getD 0 []).getD 2 ByteArray.empty := congrArg Rp.scp hp
 have et : x.stp = ((T1 L).getD 0 []).getD 3 ByteArray.empty := congrArg Rp.stp hp
 have ett : x.t = pnv (((T1 L).getD 0 []).getD 4 ByteArray.empty).data.toList := congrArg Rp.t hp
 have ec : x.c = ((T2 L).getD 0 []).drop 1 := congrArg Rp.c hp
 have ev : x.v = (T3 L).map vrOf := congrArg Rp.v hp
 have em : x.m = (rawL matW (T4 L)).getD [] := congrArg Rp.m hp
 have ep : x.p = (rawL prdW (T5 L)).getD [] := congrArg Rp.p hp
 have p1 : T1 L = [[recW, x.run, x.scp, x.stp, numW x.t]] := by
  have hm := mem (hdT recW) L
  unfold okT at h1
  rw [Bool.and_eq_true, decide_eq_true_eq] at h1
  rw [er, es, et, ett]
  change ∀ q ∈ T1 L, _ at hm
  generalize T1 L = T at *
  match T, h1 with
  | [q], h1 =>
    have hq := hm q (by simp)
    have hk := h1.2
    simp only [List.getD_cons_zero] at hk ⊢
    unfold okH at hk
    rw [Bool.and_eq_true, decide_eq_true_eq] at hk
    match q, hk with
    | [t, a, b, c, d], hk =>
      unfold hdT at hq
      have := of_decide_eq_true hq
      subst this
      simp only [List.getD_cons_zero, List.getD_cons_succ] at hk ⊢
      have hd : numW (pnv d.data.toList) = d := by
       unfold numW
       rw [(pnk_dec hk.2).1]
      rw [hd]
 have p2 : T2 L = [cmdW :: x.c] := by
  have hm := mem (hdT cmdW) (R1 L)
  change ∀ q ∈ T2 L, _ at hm
  rw [ec]
  generalize T2 L = T at *
  match T, h2 with
  | [q], _ =>
    have hq := hm q (by simp)
    cases q with
    | nil => cases hq
    | cons a r =>
      unfold hdT at hq
      have := of_decide_eq_true hq
      subst this
      rfl
 have p3 : T3 L = envR x.v := by
  have hm := mem (hdT envW) (R2 L)
  change ∀ q ∈ T3 L, _ at hm
  rw [ev]
  unfold envR
  rw [List.map_map]
  rw [List.all_eq_true] at h3
  generalize T3 L = T at *
  refine (List.map_id'' (f := fun q => q) (fun _ => rfl) T).symm.trans (List.map_congr_left fun q hq => ?_)
  have h := hm q hq
  have hl := of_decide_eq_true (h3 q hq)
  match q, hl with
  | [a, b, c], _ =>
    unfold hdT at h
    have := of_decide_eq_true h
    subst this
    rfl
 have p4 : T4 L = x.m.map (lineE matW) := by
  cases hr : rawL matW (T4 L) with
  | none => rw [hr] at h4; cases h4
  | some l => rw [em, hr, Option.getD_some]; exact rawL_lines _ _ _ hr
 have p5 : T5 L = x.p.map (lineE prdW) := by
  cases hr : rawL prdW (T5 L) with
  | none => rw [hr] at h5; cases h5
  | some l => rw [ep, hr, Option.getD_some]; exact rawL_lines _ _ _ hr
 have p6 : R5 L = [] := List.eq_nil_of_length_eq_zero h6
 rw [linesR_split, ← p1, ← p2, ← p3, ← p4, ← p5]
 rw [p6] at eL
 exact eL.symm
end Go.Proofs.YtecllfbadciaoaaGreatDoor
