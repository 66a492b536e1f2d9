/-
  The walk of the reference's Same at records of the same content (condition: both stand in memory).
-/
import Derived.Test.YtecllfbadciaoaaGreatDoorZip
import Derived.Test.YtecllfbadciaoaaGreatDoorQ25
import Derived.Test.YtecllfbadciaoaaGreatDoorRdcS
set_option maxRecDepth 100000
set_option maxHeartbeats 8000000
namespace Go.Proofs.YtecllfbadciaoaaGreatDoor
open Go.RowKit
theorem fieldsV : (Tryz.prog.fieldsOf 61).toList.map (fun f => (f.name, f.type, f.offset)) = [("Name", 9, 0), ("Value", 9, 1)] := by kernel_rfl
theorem part_s1 (a b : ByteArray) (w : World) : (part 9 #[Value.string a, Value.string b] 1).run Tryz.prog w = .ok (.string b) w := by
 have hu : (underlying 9).run Tryz.prog w = .ok .string w := run_underlying Tryz.underlying9 w
 simp [part, isAgg, hu]
theorem eqIn_V (x : Vr) (w : World) : (Op.equalIn 10000 61 (.agg (vrL x).toArray) (.agg (vrL x).toArray)).run Tryz.prog w = .ok true w := by
 rw [run_equalIn_struct w 9999 _ _ _ (by kernel_rfl) (by kernel_rfl)]
 obtain ⟨f, g, e, ⟨f1, f2, f3⟩, ⟨g1, g2, g3⟩⟩ := two fieldsV
 rw [e]
 have r := eqF_cons (d := 9999) (xs := (vrL x).toArray) (ys := (vrL x).toArray) (f := f) (fs := [g]) (by rw [f1]; decide) (by rw [f2, f3]; exact part_p x.n _ w) (by rw [f2, f3]; exact part_p x.n _ w) (by rw [f2]; exact eqIn_str 9998 x.n x.n w)
  (eqF_cons (by rw [g1]; decide) (by rw [g2, g3]; exact part_s1 x.n x.v w) (by rw [g2, g3]; exact part_s1 x.n x.v w) (by rw [g2]; exact eqIn_str 9998 x.v x.v w) (show (Op.eqFields 9999 _ _ []).run _ w = .ok true w by simp [Op.eqFields]))
 rw [r]
 simp
theorem sameR_any (x y : Rc) (w : World) (hx : RcIn x w) (hy : RcIn y w) (he : x.pl = y.pl) :
 Calls Tryz.prog 10 #[.agg x.L.toArray, .agg y.L.toArray] w fun e w' => e = .returned (.bool true) ∧ Below w.heap.size w w' := by
 have er : y.run = x.run := (congrArg Rp.run he).symm
 have es : y.scp = x.scp := (congrArg Rp.scp he).symm
 have eu : y.stp = x.stp := (congrArg Rp.stp he).symm
 have et : y.t = x.t := (congrArg Rp.t he).symm
 have ec : y.c = x.c := (congrArg Rp.c he).symm
 have ev : y.v = x.v := (congrArg Rp.v he).symm
 have em : y.m = x.m := (congrArg Rp.m he).symm
 have ep : y.p = x.p := (congrArg Rp.p he).symm
 have ecn : y.cn = x.cn := by rw [← hy.c.len, ← hx.c.len, ec]
 have evn : y.vn = x.vn := by rw [← hy.v.len, ← hx.v.len, ev]
 have emn : y.mn = x.mn := by rw [← hy.m.len, ← hx.m.len, em]
 have epn : y.pn = x.pn := by rw [← hy.p.len, ← hx.p.len, ep]
 have HLM : Hid (x.mn ≤ 1000 ∧ x.pn ≤ 1000) := hx.b.2.2.2.2.2
 have HVN : Hid (x.vn ≤ 1000 ∧ x.cn ≤ 1000) := ⟨hx.b.2.2.2.2.1, hx.b.2.2.2.1⟩
 have hb0 : Below w.heap.size w (w.alloc (.cells x.L.toArray 31)) := (Below.refl _ _).alloc (Nat.le_refl _) _
 have hr0 : (w.alloc (.cells x.L.toArray 31)).heap[w.heap.size]? = some (.cells x.L.toArray 31 (0, 0)) := heap_alloc_new _ _
 have HB0 := zh hb0; have HR0 := zh hr0; have HX := zh hx; have HY := zh hy
 clear hb0 hr0 hx hy he
 have HEQ : Hid (y.mn = x.mn ∧ y.pn = x.pn ∧ y.stp = x.stp ∧ y.m = x.m ∧ y.p = x.p) := ⟨emn, epn, eu, em, ep⟩
 go_enter Tryz.func10, Tryz.ntmps10
 go_upto_region 1 with fail
 have hsz : (World.alloc w (.cells x.L.toArray 31)).heap.size = w.heap.size + 1 := by simp
 generalize World.alloc w (.cells x.L.toArray 31) = w0 at *
 have HB1' : Hid (Below w0.heap.size w0 (w0.alloc (.cells y.L.toArray 31))) := (Below.refl _ _).alloc (Nat.le_refl _) _
 have HR1' : Hid ((w0.alloc (.cells y.L.toArray 31)).heap[w0.heap.size]? = some (.cells y.L.toArray 31 (0, 0))) := heap_alloc_new _ _
 generalize World.alloc w0 (.cells y.L.toArray 31) = w1 at *
 have HLT0 : Hid (w.heap.size < w0.heap.size) := (Array.getElem?_eq_some_iff.1 HR0.out).1
 have HRA : Hid (w1.heap[w.heap.size]? = some (.cells x.L.toArray 31 (0, 0))) := (HB1'.out.block _ HLT0.out).trans HR0.out
 have HB1 : Hid (Below w.heap.size w w1) := HB0.out.trans (HB1'.out.mono HB0.out.size)
 obtain ⟨gb, hgb⟩ : ∃ gb, gb = w0.heap.size := ⟨_, rfl⟩
 rw [← hgb] at HR1'
 rw [hsz] at hgb
 rw [← hgb]
 have HRB : Hid (w1.heap[gb]? = some (.cells y.L.toArray 31 (0, 0))) := HR1'.out
 have HGA : Hid (w.heap.size < w1.heap.size) := (Array.getElem?_eq_some_iff.1 HRA.out).1
 have HGB : Hid (gb < w1.heap.size) := (Array.getElem?_eq_some_iff.1 HRB.out).1
 have HX1 := zh (HX.out.below HB1.out); have HY1 := zh (HY.out.below HB1.out)
 clear hgb hsz HB1' HR1' HR0 HB0 HLT0 HX HY
 have a0 : w1.cell? ⟨w.heap.size, 0, none⟩ = some (.string x.run) := heap_cellR HRA.out rfl
 have a1 : w1.cell? ⟨w.heap.size, 1, none⟩ = some (.string x.scp) := heap_cellR HRA.out rfl
 have a3 : w1.cell? ⟨w.heap.size, 3, none⟩ = some (.int .i64 x.t) := heap_cellR HRA.out rfl
 have a4 : w1.cell? ⟨w.heap.size, 4, none⟩ = some (.slice x.c1 x.cn x.cc) := heap_cellR HRA.out rfl
 have a5 : w1.cell? ⟨w.heap.size, 5, none⟩ = some (.slice x.v1 x.vn x.vc) := heap_cellR HRA.out rfl
 have b0 : w1.cell? ⟨gb, 0, none⟩ = some (.string x.run) := by rw [← er]; exact heap_cellR HRB.out rfl
 have b1 : w1.cell? ⟨gb, 1, none⟩ = some (.string x.scp) := by rw [← es]; exact heap_cellR HRB.out rfl
 have b3 : w1.cell? ⟨gb, 3, none⟩ = some (.int .i64 x.t) := by rw [← et]; exact heap_cellR HRB.out rfl
 have b4 : w1.cell? ⟨gb, 4, none⟩ = some (.slice y.c1 x.cn y.cc) := by rw [← ecn]; exact heap_cellR HRB.out rfl
 have b5 : w1.cell? ⟨gb, 5, none⟩ = some (.slice y.v1 x.vn y.vc) := by rw [← evn]; exact heap_cellR HRB.out rfl
 have hsame := (same_any x.c1 y.c1 x.cn x.cc y.cc w1.heap.size x.c w1 HX1.out.c (by rw [← ecn, ← ec]; exact HY1.out.c) (by have := HVN.out.2; omega)).mono (R' := fun e w' => e = .returned (.bool true) ∧ Below w1.heap.size w1 w') (fun e w' h => ⟨h.1, by obtain ⟨m, rfl⟩ := h.2; exact below_drewN (Below.refl _ _) _⟩)
 have HSM := zh hsame
 have A5 := zh a5; have B5 := zh b5
 have HVY : Hid (VrsIn w1 w1.heap.size y.v1 x.vn y.vc x.v) := by show VrsIn _ _ _ _ _ _; rw [← evn, ← ev]; exact HY1.out.v
 clear er es eu et ec ev em ep ecn evn emn epn hsame
 go_wp2_with fail
 refine HSM.out.mono ?_
 rintro e w2 ⟨rfl, hb2⟩
 have HB12 := zh hb2
 have a5 : w2.cell? ⟨w.heap.size, 5, none⟩ = some (.slice x.v1 x.vn x.vc) := (hb2.cell (p := ⟨w.heap.size, 5, none⟩) HGA.out).trans A5.out
 have b5 : w2.cell? ⟨gb, 5, none⟩ = some (.slice y.v1 x.vn y.vc) := (hb2.cell (p := ⟨gb, 5, none⟩) HGB.out).trans B5.out
 clear a0 a1 a3 a4 b0 b1 b3 b4 hb2 HSM
 go_wp2_with fail
 clear a5 b5
 go_loopw [5] (fun i wr => ∃ k : Nat, k ≤ x.vn ∧ i = .int .i64 k ∧ Hid (Below w1.heap.size w1 wr)) (fun i _ => x.vn - (intOf i).toNat)
 case atStart => exact ⟨0, Nat.zero_le _, rfl, HB12.out⟩
 case round =>
  obtain ⟨k, hk, rfl, HBR⟩ := hrel
  have a5 : wr.cell? ⟨w.heap.size, 5, none⟩ = some (.slice x.v1 x.vn x.vc) := (HBR.out.cell (p := ⟨w.heap.size, 5, none⟩) HGA.out).trans A5.out
  by_cases hlt : k < x.vn
  ·have hd : decide ((k : Int) < (x.vn : Int)) = true := by simp; omega
   have hkl : k < x.v.length := by have := HX1.out.v.len; omega
   obtain ⟨z, hz⟩ : ∃ z, x.v[k]? = some z := ⟨_, List.getElem?_eq_getElem hkl⟩
   obtain ⟨b1, o1, hs1, hb1, hc1, hr1⟩ := HX1.out.v.cells (by omega)
   obtain ⟨b2, o2, hs2, hb2, hc2, hr2⟩ := HVY.out.cells (by omega)
   have HRX := zh (hr1 k z hz); have HRY := zh (hr2 k z hz)
   rw [hs1] at a5
   rw [hs1] at A5
   rw [hs2] at B5
   have p1 : (0 : Int) ≤ (k : Int) := by omega
   have p2 : (k : Int) < (x.vn : Int) := by omega
   have hvn := HVN.out.1
   have he := eqIn_V z
   clear hr1 hr2 hz hkl hs1 hs2 hc1 hc2
   go_upto_region 6 with fail
   refine wp_region_held_drew (S := fun w' => Below w1.heap.size w1 w') (by kernel_rfl) HBR.out.drew (fun hHeld => ?_)
   refine zv 0 rfl ?_
   refine zx 1 rfl (v := ?_) ?_ ?_; rotate_left
   ·intro w' hSw; have ce : w'.cell? ⟨w.heap.size, 5, none⟩ = some (.slice (some ⟨b1, o1, none⟩) x.vn x.vc) := (hSw.cell (p := ⟨w.heap.size, 5, none⟩) HGA.out).trans A5.out; go_simp; try with_reducible rfl
   refine zv 2 rfl ?_
   refine zv 3 rfl ?_
   refine' zk 4 rfl (v := _) (yieldsIf_load_mid (by rfl) _ _ rfl _ _ rfl _ _ ?hS4n5 Tryz.underlying61 rfl (infoVr z)) ?rest4n5
   case hS4n5 =>
    intro w' hSw
    exact range_belowR HRX.out hSw hb1
   try simp only [Act.put, zuA, zuB, zuC, zuD, zuY, zuF]
   refine zv 5 rfl ?_
   refine zx 6 rfl (v := ?_) ?_ ?_; rotate_left
   ·intro w' hSw; have ce : w'.cell? ⟨gb, 5, none⟩ = some (.slice (some ⟨b2, o2, none⟩) x.vn y.vc) := (hSw.cell (p := ⟨gb, 5, none⟩) HGB.out).trans B5.out; go_simp; try with_reducible rfl
   refine zv 7 rfl ?_
   refine zv 8 rfl ?_
   refine' zk 9 rfl (v := _) (yieldsIf_load_mid (by rfl) _ _ rfl _ _ rfl _ _ ?hS9n10 Tryz.underlying61 rfl (infoVr z)) ?rest9n10
   case hS9n10 =>
    intro w' hSw
    exact range_belowR HRY.out hSw hb2
   try simp only [Act.put, zuA, zuB, zuC, zuD, zuY, zuF]
   refine zv 10 rfl ?_
   refine zd ?_ _
   clear hHeld
   go_wp2_with fail
   go_roundw
   case rel => exact ⟨k + 1, by omega, by go_num, HBR.out.drew⟩
   case measure => simp [intOf]; omega
  ·obtain rfl : k = x.vn := by omega
   have hd : decide ((x.vn : Int) < (x.vn : Int)) = false := by simp
   go_upto_region 8 with fail
   obtain ⟨B1, hB1⟩ : ∃ B1, B1 = w1.heap.size := ⟨_, rfl⟩
   have HB1E := zh hB1
   have HLX : Hid (w.heap.size < B1 ∧ gb < B1) := by show _ ∧ _; rw [hB1]; exact ⟨HGA.out, HGB.out⟩
   have HSwr : Hid (Blks B1 w1 wr []) := Blks.start (by rw [hB1]; exact HBR.out) (by rw [hB1]; exact HBR.out.size)
   have HCA : Hid (∀ w', Below B1 w1 w' → Calls Tryz.prog 17 #[.agg x.L.toArray] w' (LkAns x w')) := fun w' hb => rlinkR_any x w' (HX1.out.below (by rw [← HB1E.out]; exact hb))
   have HCB : Hid (∀ w', Below B1 w1 w' → Calls Tryz.prog 17 #[.agg y.L.toArray] w' (LkAns x w')) := fun w' hb => (rlinkR_any y w' (HY1.out.below (by rw [← HB1E.out]; exact hb))).mono fun e w'' h => by
    obtain ⟨e1, e2, e3, e4, e5⟩ := HEQ.out
    unfold LkAns at h ⊢
    rw [e1, e2, e3, e4, e5] at h
    exact h
   clear hB1 A5 B5 HVY HX1 HY1 HEQ HGA HGB a5 HB12
   refine wp_region_held_drew (S := fun w' => Below B1 w1 w') (by kernel_rfl) HSwr.out.b.drew (fun hHeld => ?_)
   refine' zk 0 rfl (v := _) (yieldsIf_load_mid (by rfl) _ _ rfl _ _ rfl _ _ ?hS0n12 Tryz.underlying31 rfl (infoRc x)) ?rest0n12
   case hS0n12 =>
    intro w' hSw
    exact row_rngR (L := x.L) ((hSw.block _ HLX.out.1).trans HRA.out)
   try simp only [Act.put, zuA, zuB, zuC, zuD, zuY, zuF]
   refine' zk 2 rfl (v := _) (yieldsIf_load_mid (by rfl) _ _ rfl _ _ rfl _ _ ?hS2n13 Tryz.underlying31 rfl (infoRc y)) ?rest2n13
   case hS2n13 =>
    intro w' hSw
    exact row_rngR (L := y.L) ((hSw.block _ HLX.out.2).trans HRB.out)
   try simp only [Act.put, zuA, zuB, zuC, zuD, zuY, zuF]
   refine zr 1 rfl (fun K hK => ?_)
   go_simp
   with_reducible refine (HCA.out _ (HSwr.out.drew).b).mono ?_
   rintro e v1 ⟨q1, d1, q2, d2, rfl, he1, he2, hb⟩
   have HSv1 := zh (HSwr.out.call ((Below.refl _ _).drew.trans hb))
   have HEav1 := zh (EnX.of he1.out)
   have HEbv1 := zh (EnX.of he2.out)
   clear he1 he2
   clear hb
   go_wp2_with fail
   refine hK.out _ _ HSv1.out.b fun _ => ?_; clear hK K
   refine zr 3 rfl (fun K hK => ?_)
   go_simp
   with_reducible refine (HCB.out _ (HSv1.out).b).mono ?_
   rintro e v2 ⟨f1, g1, f2, g2, rfl, he1, he2, hb⟩
   have HSv2 := zh (HSv1.out.call hb)
   have HEav2 := zh (HEav1.out.below hb)
   have HEbv2 := zh (HEbv1.out.below hb)
   have HEcv2 := zh (EnX.of he1.out)
   have HEdv2 := zh (EnX.of he2.out)
   clear he1 he2
   clear hb
   go_wp2_with fail
   refine hK.out _ _ HSv2.out.b fun _ => ?_; clear hK K
   refine zr 4 rfl (fun K hK => ?_)
   go_simp
   with_reducible refine (sameLinkR_any x.stp q1 x.mn d1 x.m q2 x.pn d2 x.p f1 g1 f2 g2 _ HEav2.out.i HEbv2.out.i HEcv2.out.i HEdv2.out.i HLM.out.1 HLM.out.2).mono ?_
   rintro e v3 ⟨rfl, hb⟩
   have HSv3 := zh (HSv2.out.call hb)
   have HEav3 := zh (HEav2.out.below hb)
   have HEbv3 := zh (HEbv2.out.below hb)
   have HEcv3 := zh (HEcv2.out.below hb)
   have HEdv3 := zh (HEdv2.out.below hb)
   clear hb
   go_wp2_with fail
   refine hK.out _ _ HSv3.out.b fun _ => ?_; clear hK K
   refine zv 5 rfl ?_
   refine zd ?_ _
   go_wp2_with fail
   go_ret
   exact ⟨rfl, HB1.out.trans (show Below w.heap.size w1 v3 from HSv3.out.b.mono (by rw [HB1E.out]; exact HB1.out.size))⟩
theorem bsrc_own {w : World} {base : Nat} {sp : Option Addr} {cap : Nat} {X : List UInt8} (h : w.ownsRow base 5 1 (.slice sp X.length cap) X.length (Lib.byteCells X)) : BSrc w w.heap.size sp X.length cap X := by
 refine ⟨rfl, fun hn => ?_⟩
 obtain ⟨_, ⟨_, h2⟩ | ⟨g, c, u, e, _, hg, hle, _, hs, ht⟩⟩ := h
 ·omega
 ·injection e with e1 e2 e3
  subst e3
  refine ⟨g, 0, e1, (Array.getElem?_eq_some_iff.1 hg).1, hle, fun j hj => ?_⟩
  rw [cell_of_row w g (0 + j) u _ _ hg, Nat.zero_add]
  have h5 : (u.toList.take (X.length * 1))[j]? = some (.int .u8 (X[j].toNat : Int)) := by rw [ht]; simp [Lib.byteCells, hj]
  rw [List.getElem?_take, if_pos (by omega)] at h5
  simpa using h5
theorem bsrc_mem {w w' : World} {sp : Option Addr} {n cap : Nat} {l : List UInt8} (h : BSrc w w.heap.size sp n cap l) (hb : Below w.heap.size w w') : BSrc w' w'.heap.size sp n cap l :=
 ⟨h.len, fun hn => by obtain ⟨bb, off, e, h1, h2, h3⟩ := (h.below hb (Nat.le_refl _)).cells hn; exact ⟨bb, off, e, Nat.lt_of_lt_of_le h1 hb.size, h2, h3⟩⟩
theorem mdQ (m : Int) (hm : 0 < m) (hb : m ≤ 1000000) (x : Int) : (wrap64 (Int.tmod x m + m)).tmod m = x % m := by
 have h1 : -m < Int.tmod x m := Int.lt_tmod_of_pos x hm
 have h2 : Int.tmod x m < m := Int.tmod_lt_of_pos x hm
 rw [show wrap64 (Int.tmod x m + m) = Int.tmod x m + m by unfold wrap64; omega]
 rw [Int.tmod_eq_emod_of_nonneg (by omega)]
 rcases Int.le_total 0 x with h | h
 ·rw [Int.tmod_eq_emod_of_nonneg h, Int.add_emod_right, Int.emod_emod_of_dvd _ (Int.dvd_refl m)]
 ·have e : Int.tmod x m = x - m * x.tdiv m := by rw [Int.tmod_def]
  rw [e, Int.add_emod_right, Int.sub_mul_emod_self_left]
theorem infoBy1 : (Tryz.prog.info? 5).map (·.size) = some 1 := by kernel_rfl
theorem infoBy3 : (Tryz.prog.info? 5).map (fun i => (i.zero, i.size, i.bytes)) = some (some (.int .u8 0), 1, 1) := by kernel_rfl
theorem sliceB0 (w : World) : (Instr.buildSlice 22 0 #[]).run Tryz.prog w = .ok (.slice (some ⟨w.heap.size, 0, none⟩) 0 0) (w.alloc (.cells #[] 5)) := by kernel_rfl
theorem sliceB3 (s1 s2 s3 : Option Addr) (n1 n2 n3 c1 c2 c3 : Nat) (w : World) : (Instr.buildSlice 36 3 #[(0, .slice s1 n1 c1), (1, .slice s2 n2 c2), (2, .slice s3 n3 c3)]).run Tryz.prog w = .ok (.slice (some ⟨w.heap.size, 0, none⟩) 3 3) (w.alloc (.cells #[.slice s1 n1 c1, .slice s2 n2 c2, .slice s3 n3 c3] 22)) := by kernel_rfl
theorem wp_append_u8 {w : World} {o : Oper} {a : Act} {K : Act → World → Prop} {Q : Exit → Act → World → Prop} (s x : Operand)
 (ho : o.op = .call { callee := .builtin .append, args := #[s, x], argTypes := #[22, 22] })
 (base : Nat) (v : Value) (l : List UInt8) (n : Nat) (hs : a.eval s = v) (hn : n = l.length) (hown : w.ownsRow base 5 1 v n (Lib.byteCells l))
 (g off m c : Nat) (l2 : List UInt8) (hx : a.eval x = .slice (some ⟨g, off, none⟩) m c) (hl2 : l2.length = m) (hc : ∀ j (hj : j < l2.length), w.cell? ⟨g, off + j, none⟩ = some (.int .u8 (l2[j].toNat : Int)))
 (hlen : n ≤ 1000000) (hm : m ≤ 1000000) (hbase : base ≤ w.heap.size)
 (h : ∀ sp cap w', Hid (w'.ownsRow base 5 1 (.slice sp (n + m) cap) (n + m) (Lib.byteCells (l ++ l2))) → Hid (w.grownBy w' v.ownBlock) → K (a.put o.dst (.slice sp (n + m) cap)) w') : o.wp Tryz.prog a w K Q := by
 obtain ⟨i0, hi0, hz0, hz1, hz2⟩ := info_partsQ infoBy3
 refine wp_append_own w s x _ ho base _ i0 _ 1 1 Tryz.underlying22 hi0 hz0 hz1 hz2 rfl (by decide) v n _ hs hown ⟨g, off, none⟩ m c (Lib.byteCells l2) hx (by simp [Lib.byteCells, hl2]) ?_ (by intro u hu; simp [Lib.byteCells] at hu; obtain ⟨z, _, rfl⟩ := hu; rfl) (by unfold maxLen; omega) (by omega) hbase ?_
 ·intro j u hj
  have hjl : j < l2.length := by have := (List.getElem?_eq_some_iff.1 hj).1; simpa [Lib.byteCells] using this
  rw [Addr.add_mid, hc j hjl]
  have : (Lib.byteCells l2)[j]? = some (.int .u8 (l2[j].toNat : Int)) := by
   unfold Lib.byteCells
   rw [List.getElem?_map, List.getElem?_eq_getElem hjl]; rfl
  rw [← hj, this]
 ·intro v' w' h1 h2 _
  obtain ⟨sp, cap, rfl⟩ := own_shapeQ h1
  exact h sp cap w' (by show World.ownsRow _ _ _ _ _ _ _; rw [show Lib.byteCells (l ++ l2) = Lib.byteCells l ++ Lib.byteCells l2 by simp [Lib.byteCells]]; exact h1) h2
structure Tri (g : Nat) (w : World) : Prop where
 lt : g < w.heap.size
 c : ∀ k, k < 3 → ∃ sp n cap l, w.cell? ⟨g, k, none⟩ = some (.slice sp n cap) ∧ BSrc w w.heap.size sp n cap l
theorem Tri.below {g : Nat} {w w' : World} (h : Tri g w) (hb : Below w.heap.size w w') : Tri g w' :=
 ⟨Nat.lt_of_lt_of_le h.lt hb.size, fun k hk => by
  obtain ⟨sp, n, cap, l, h1, h2⟩ := h.c k hk
  exact ⟨sp, n, cap, l, (hb.cell (p := ⟨g, k, none⟩) h.lt).trans h1, bsrc_mem h2 hb⟩⟩
theorem recordDecodes_any (bsp : Option Addr) (bn bcap : Nat) (bl : List UInt8) (tsp : Option Addr) (tn tcap : Nat) (tl : List Int) (at_ : Int) (w : World) (hbs : BSrc w w.heap.size bsp bn bcap bl) (ht : TapeIn w tsp tn tcap tl) (hat : -9223372036854775808 ≤ at_ ∧ at_ ≤ 9223372036854775807) (hp : Lib.TabIs Tryz.prog w "internal/strconv.uint64pow10" .u64 Lib.pow10Tab) (hg : 1 < w.heap.size) :
 Calls Tryz.prog 3 #[.slice bsp bn bcap, .slice tsp tn tcap, .int .i64 at_] w fun e w' => e = .returned (.bool true) ∧ Below w.heap.size w w' := by
 have HBS := zh hbs; have HTI := zh ht
 have HP := zh hp; have HG := zh hg
 clear ht hp hg hbs
 by_cases hbig : 100000 < bn
 ·have hd : decide ((bn : Int) > 100000) = true := by simp; omega
  go_enter Tryz.func3, Tryz.ntmps3
  go_wp2_with fail
  go_ret
  exact ⟨rfl, Below.refl _ _⟩
 have hd : decide ((bn : Int) > 100000) = false := by simp; omega
 have HTP := zh HTI.out.tp
 have HBT : Hid (Below w.heap.size w (w.alloc (.cells #[.slice tsp tn tcap, .int .i64 0] 35))) := (Below.refl _ _).alloc (Nat.le_refl _) _
 go_enter Tryz.func3, Tryz.ntmps3
 go_wp2_with (refine wpList_build_eq rfl 35 [(0, .tmp 21)] rfl [(0, .slice tsp tn tcap)] rfl (.agg #[.slice tsp tn tcap, .int .i64 0]) (by kernel_rfl) ?_)
 clear hd hbig HTI
 generalize World.alloc w _ = w1 at *
 refine (made12_any w.heap.size 900 w1 (HTP.out.le (by omega))).mono ?_
 rintro e w2 ⟨x, rfl, hi, hmd, ht, hu⟩
 have HXI := zh hi
 have HB2 : Hid (Below w.heap.size w w2) := HBT.out.trans (hu.below (Nat.le_refl _) HTP.out.lt)
 have HME := zh (md12_enc hmd hi)
 clear hi hmd ht hu HTP HBT
 have HEN := zh (rencodeR_any x w2 HXI.out)
 go_wp2_with fail
 refine HEN.out.mono ?_
 rintro e w4 ⟨v1, rfl, hv1, hb4⟩
 have HB4 : Hid (Below w.heap.size w w4) := HB2.out.trans (hb4.mono HB2.out.size)
 obtain ⟨s1, cx, rfl⟩ := own_shapeQ hv1.out
 have HV1 := hv1
 obtain ⟨X, hX⟩ : ∃ X, X = (encR x).2 := ⟨_, rfl⟩
 rw [← hX] at HV1 HME
 rw [← hX]
 have hlim : X.length ≤ 262144 := by
  rw [hX]
  unfold encR
  split
  ·unfold enc
   split
   ·split
    ·simp
    ·show (encL (linesR x)).length ≤ _; omega
   ·simp
  ·simp
 have hpos : 0 < X.length := by
  cases hXX : X with
  | nil => exact absurd hXX HME.out.2
  | cons a r => simp
 have HBX0 : Hid (BSrc w4 w4.heap.size s1 X.length cx X) := bsrc_own HV1.out
 have HCX : Hid (X.length ≤ cx) := own_capQ HV1.out
 obtain ⟨gx, hgx, hs1⟩ : ∃ gx, gx < w4.heap.size ∧ s1 = some ⟨gx, 0, none⟩ := by
  obtain ⟨_, ⟨e, e0⟩ | ⟨g, cap', cur, e, _, hgg, _⟩⟩ := HV1.out
  ·omega
  ·injection e with e _ _
   exact ⟨g, (Array.getElem?_eq_some_iff.1 hgg).1, e⟩
 subst hs1
 obtain ⟨len, hlen⟩ : ∃ len, len = X.length := ⟨_, rfl⟩
 rw [← hlen] at HBX0 HCX hlim hpos
 rw [← hlen]
 have HXL : Hid (X.length = len) := hlen.symm
 clear hv1 hb4 HEN HME HV1 hX HXI HB2 hlen
 have hcx : len ≤ cx := HCX.out
 have hl0 : ¬ (len = 0) := by omega
 have hl1 : ((len : Int) == 0) = false := by rw [beq_eq_false_iff_ne]; omega
 have hmd := mdQ (len : Int) (by omega) (by omega) at_
 obtain ⟨κ, hκ⟩ : ∃ κ : Nat, at_ % (len : Int) = (κ : Int) := ⟨(at_ % (len : Int)).toNat, by rw [Int.toNat_of_nonneg (Int.emod_nonneg _ (by omega))]⟩
 have hκlt : κ < len := by have := Int.emod_lt_of_pos at_ (show (0 : Int) < (len : Int) by omega); omega
 rw [hκ] at hmd
 have hκl : κ ≤ len := by omega
 have hκ1 : κ + 1 ≤ len := by omega
 clear hκ
 go_upto_region 5 with fail
 clear hmd hat hl1
 obtain ⟨Bx, hBx⟩ : ∃ Bx, Bx = w4.heap.size := ⟨_, rfl⟩
 have HBX := zh hBx
 have HXC : Hid (∀ w', Below Bx w4 w' → ∀ (j : Nat) (l2 : List UInt8) (hj : j < l2.length) (o : Nat), (∃ t, X.drop o = l2 ++ t) → w'.cell? ⟨gx, o + j, none⟩ = some (.int .u8 (l2[j].toNat : Int))) := by
  show ∀ _, _
  intro w' hb j l2 hj o ⟨t, e⟩
  obtain ⟨b0, o0, e0, hlt0, _, hc0⟩ := HBX0.out.cells hpos
  injection e0 with e0
  injection e0 with e1 e2 _
  subst e1 e2
  have hjx : o + j < X.length := by
   have := congrArg List.length e
   rw [List.length_drop, List.length_append] at this
   omega
  have hcj := hc0 (o + j) hjx
  rw [Nat.zero_add] at hcj
  have hv : X[o + j] = l2[j] := by
   have h1 : (X.drop o)[j]? = some X[o + j] := by rw [List.getElem?_drop, List.getElem?_eq_getElem hjx]
   rw [e, List.getElem?_append_left hj, List.getElem?_eq_getElem hj] at h1
   injection h1 with h1; exact h1.symm
  rw [← hv]
  exact (hb.cell (p := ⟨gx, o + j, none⟩) (by show gx < Bx; rw [hBx]; exact hgx)).trans hcj
 clear hBx
 have q9 : IntKind.i64.wrap ((κ : Int) + 1) = (κ : Int) + 1 := IntWalk.i64_in _ (by omega)
 refine wp_region_held_drew (S := fun w' => Below Bx w4 w') (by kernel_rfl) (Below.refl Bx w4).drew (fun hHeld => ?_)
 have HBd : Hid (Below Bx w4 w4.drew) := (Below.refl Bx w4).drew
 have HSd : Hid (w4.drew.heap.size = Bx) := HBX.out.symm
 generalize World.drew w4 = wd at *
 refine zv 1 rfl ?_
 refine zv 2 rfl ?_
 refine zx 3 rfl (v := ?_) ?_ ?_; rotate_left
 ·intro w' hSw; have ce := run_till (t := 22) Tryz.underlying22 infoBy1 w' (some ⟨gx, 0, none⟩) len cx κ hκl hcx; go_simp; try with_reducible rfl
 refine zv 5 rfl ?_
 refine zv 6 rfl ?_
 refine zv 7 rfl ?_
 refine zw 8 rfl (v := ?_) ?_ ?_; rotate_left
 ·intro w' hSw
  have ce := run_fromZ (t := 22) Tryz.underlying22 infoBy1 w' (some ⟨gx, 0, none⟩) len cx (κ + 1) hκ1
  rw [show ((κ + 1 : Nat) : Int) = (κ : Int) + 1 by omega] at ce
  go_simp
  try with_reducible rfl
 try simp only [Act.put, zuA, zuB, zuC, zuD, zuY, zuF]
 refine zr 0 rfl (fun K hK => ?_)
 rw [if_pos (by rfl)]
 refine wp_slice_eqR 22 0 [] rfl [] rfl _ _ (sliceB0 _) ?_
 have HBa : Hid (Below Bx w4 (wd.alloc (.cells #[] 5))) := HBd.out.alloc (Nat.le_of_eq HSd.out.symm) _
 have HOa : Hid ((wd.alloc (.cells #[] 5)).ownsRow Bx 5 1 (.slice (some ⟨wd.heap.size, 0, none⟩) 0 0) 0 (Lib.byteCells [])) := ⟨rfl, .inr ⟨wd.heap.size, 0, #[], rfl, Nat.le_of_eq HSd.out.symm, heap_alloc_new wd _, Nat.le_refl _, by unfold maxLen; omega, rfl, rfl⟩⟩
 have HZa : Hid (Bx ≤ (wd.alloc (.cells #[] 5)).heap.size) := by show _ ≤ _; rw [← HSd.out]; simp
 generalize wd.alloc (.cells #[] 5) = wa at *
 generalize wd.heap.size = ga at *
 clear HBd HSd
 refine hK.out _ _ HBa.out fun _ => ?_; clear hK K
 try simp only [Act.put, zuA, zuB, zuC, zuD, zuY, zuF]
 refine zr 4 rfl (fun K hK => ?_)
 rw [if_pos (by rfl)]
 refine wp_append_u8 (.tmp 38) (.tmp 41) rfl Bx _ [] 0 rfl rfl HOa.out gx 0 κ cx (X.take κ) rfl (by rw [List.length_take, HXL.out]; omega) (fun j hj => by have h := HXC.out wa HBa.out j (X.take κ) hj 0 ⟨X.drop κ, by rw [List.drop_zero, List.take_append_drop]⟩; exact h) (by omega) (by omega) HZa.out ?_
 intro sp5 cp5 w5 HO5 HG5
 have HB5 : Hid (Below Bx w4 w5) := HBa.out.grown HG5.out HZa.out (own_baseG HOa.out)
 have HZ5 : Hid (Bx ≤ w5.heap.size) := Nat.le_trans HZa.out HG5.out.size
 rw [Nat.zero_add, List.nil_append] at HO5
 clear HBa HOa HZa HG5
 refine hK.out _ _ HB5.out fun _ => ?_; clear hK K
 try simp only [Act.put, zuA, zuB, zuC, zuD, zuY, zuF]
 refine zr 9 rfl (fun K hK => ?_)
 rw [if_pos (by rfl)]
 obtain ⟨offy, hofy⟩ : ∃ offy, slZ (some ⟨gx, 0, none⟩) (κ + 1) 1 cx = some ⟨gx, offy, none⟩ := by
  unfold slZ
  split
  ·exact ⟨0, rfl⟩
  ·exact ⟨κ + 1, by simp [Addr.add]⟩
 have HOFY : Hid (∀ j, j < (X.drop (κ + 1)).length → (⟨gx, offy + j, none⟩ : Addr) = ⟨gx, (κ + 1) + j, none⟩) := by
  show ∀ _, _
  intro j hj
  rw [List.length_drop, HXL.out] at hj
  unfold slZ at hofy
  rw [if_neg (by omega)] at hofy
  simp [Addr.add] at hofy
  rw [← hofy]
 refine wp_append_u8 (.tmp 42) (.tmp 46) rfl Bx (.slice sp5 κ cp5) (X.take κ) κ (by show Value.slice sp5 (0 + κ) cp5 = _; rw [Nat.zero_add]) (by rw [List.length_take, HXL.out]; omega) HO5.out gx offy (len - (κ + 1)) (cx - (κ + 1)) (X.drop (κ + 1)) (by rw [← hofy]; rfl) (by rw [List.length_drop, HXL.out]) (fun j hj => by rw [HOFY.out j hj]; exact HXC.out w5 HB5.out j (X.drop (κ + 1)) hj (κ + 1) ⟨[], by simp⟩) (by omega) (by omega) HZ5.out ?_
 intro sp6 cp6 w6 HO6 HG6
 have HB6 : Hid (Below Bx w4 w6) := HB5.out.grown HG6.out HZ5.out (own_baseG HO5.out)
 clear HB5 HO5 HZ5 HG6
 refine hK.out _ _ HB6.out fun _ => ?_; clear hK K
 try simp only [Act.put, zuA, zuB, zuC, zuD, zuY, zuF]
 refine zv 10 rfl ?_
 refine zd ?_ _
 have hy6 := HO6.out
 obtain ⟨Y, hY⟩ : ∃ Y, Y = X.take κ ++ X.drop (κ + 1) := ⟨_, rfl⟩
 have hyl : κ + (len - (κ + 1)) = Y.length := by rw [hY, List.length_append, List.length_take, List.length_drop, HXL.out]; omega
 rw [← hY] at hy6
 rw [hyl] at hy6
 rw [hyl]
 have HB46 : Hid (Below w4.heap.size w4 w6) := by rw [← HBX.out]; exact HB6.out
 have HBY6 : Hid (BSrc w6 w6.heap.size sp6 Y.length cp6 Y) := bsrc_own hy6
 have HBX6 : Hid (BSrc w6 w6.heap.size (some ⟨gx, 0, none⟩) len cx X) := bsrc_mem HBX0.out HB46.out
 have HBW6 : Hid (Below w.heap.size w w6) := HB4.out.trans (HB46.out.mono HB4.out.size)
 have HBB6 : Hid (BSrc w6 w6.heap.size bsp bn bcap bl) := bsrc_mem HBS.out HBW6.out
 clear hy6 hY HO6 HB6 HB46 HBX0 HBX HXC HCX HXL HB4 hyl q9 hcx hl0 hκlt hκl hκ1 hlim hpos hgx
 generalize Y.length = ly at *
 have HTRI : Hid (Tri w6.heap.size (w6.alloc (.cells #[.slice bsp bn bcap, .slice (some ⟨gx, 0, none⟩) len cx, .slice sp6 ly cp6] 22))) := by
  have hb : Below w6.heap.size w6 (w6.alloc (.cells #[.slice bsp bn bcap, .slice (some ⟨gx, 0, none⟩) len cx, .slice sp6 ly cp6] 22)) := (Below.refl _ _).alloc (Nat.le_refl _) _
  have hr := heap_alloc_new w6 (.cells #[.slice bsp bn bcap, .slice (some ⟨gx, 0, none⟩) len cx, .slice sp6 ly cp6] 22)
  refine ⟨by simp, fun k hk => ?_⟩
  match k, hk with
  | 0, _ => exact ⟨bsp, bn, bcap, bl, by rw [cell_of_row _ _ 0 _ _ _ hr]; rfl, bsrc_mem HBB6.out hb⟩
  | 1, _ => exact ⟨_, len, cx, X, by rw [cell_of_row _ _ 1 _ _ _ hr]; rfl, bsrc_mem HBX6.out hb⟩
  | 2, _ => exact ⟨sp6, ly, cp6, Y, by rw [cell_of_row _ _ 2 _ _ _ hr]; rfl, bsrc_mem HBY6.out hb⟩
 have HBR : Hid (Below w.heap.size w (w6.alloc (.cells #[.slice bsp bn bcap, .slice (some ⟨gx, 0, none⟩) len cx, .slice sp6 ly cp6] 22))) := HBW6.out.trans ((Below.refl w6.heap.size w6).alloc (Nat.le_refl _) _ |>.mono HBW6.out.size)
 go_upto_region 7 with (refine wpList_slice_eqQ rfl 36 3 [(0, .tmp 48), (1, .tmp 49), (2, .tmp 50)] rfl [(0, .slice bsp bn bcap), (1, .slice (some ⟨gx, 0, none⟩) len cx), (2, .slice sp6 ly cp6)] rfl _ _ (sliceB3 _ _ _ _ _ _ _ _ _ _) ?_; generalize World.alloc w6 _ = w7 at *)
 generalize w6.heap.size = gR at *
 clear HBY6 HBX6 HBB6 HBW6 HBS
 go_wp2_with fail
 go_loopw [53] (fun i wr => ∃ k : Nat, i = .int .i64 k ∧ k ≤ 3 ∧ Hid (Tri gR wr) ∧ Hid (Below w.heap.size w wr)) (fun i _ => 3 - (intOf i).toNat)
 case atStart => exact ⟨0, rfl, by omega, HTRI.out, HBR.out⟩
 case round =>
  obtain ⟨k, rfl, hk3, HT, HB⟩ := hrel
  clear HTRI HBR
  by_cases hlt : k < 3
  ·have hd : decide ((k : Int) < 3) = true := by simp; omega
   obtain ⟨sl, nl, cl, ll, ck, hbl⟩ := HT.out.c k hlt
   have HBL := zh hbl
   have p1 : (0 : Int) ≤ (k : Int) := by omega
   have p2 : (k : Int) < (3 : Int) := by omega
   have HDX := zh (decodeR_any sl nl cl ll wr hbl)
   clear hbl
   obtain ⟨D, hD⟩ : ∃ D, D = decW (decC ⟨ll.toArray⟩) := ⟨_, rfl⟩
   have HDE := zh hD
   rw [← hD] at HDX
   clear hD
   go_wp2_with fail
   refine HDX.out.mono ?_
   rintro e w8 ⟨y, rfl, hyi, hypl, hb8⟩
   have HYI := hyi; have HYP := zh hypl; have HB8 := zh hb8
   clear hyi hypl hb8 HDX ck p1 p2
   have HZY := zh (heap_alloc_new w8 (.cells zRc 31))
   go_upto_region 10 with (refine wpList_store_row rfl 31 _ _ rfl w8.heap.size y.L.toArray rfl rfl 31 _ HZY.out (infoRcA y) rfl (oneRc y) ?_; rw [setRow_new]; have HB89 : Hid (Below w8.heap.size w8 (w8.alloc (.cells y.L.toArray 31))) := (Below.refl _ _).alloc (Nat.le_refl _) _; have HY9 : Hid ((w8.alloc (.cells y.L.toArray 31)).heap[w8.heap.size]? = some (.cells y.L.toArray 31 (0, 0))) := heap_alloc_new _ _; clear HZY; generalize World.alloc w8 (.cells y.L.toArray 31) = w9 at *)
   have HYI9 : Hid (RcIn y w9) := HYI.out.below HB89.out
   have HBr9 : Hid (Below wr.heap.size wr w9) := HB8.out.trans (HB89.out.mono HB8.out.size)
   have HGY : Hid (w8.heap.size < w9.heap.size) := (Array.getElem?_eq_some_iff.1 HY9.out).1
   generalize w8.heap.size = gY at *
   have HRX := zh (refDecodeR_any sl nl cl ll w9 (bsrc_mem HBL.out HBr9.out))
   rw [← HDE.out] at HRX
   clear HBL HDE HYI HB8 HB89
   go_wp2_with fail
   refine HRX.out.mono ?_
   rintro e wb ⟨z, rfl, hzi, hzpl, hbb⟩
   have HZI := hzi; have HZP : Hid (y.pl = z.pl) := HYP.out.trans hzpl.symm
   have HYb : Hid (wb.heap[gY]? = some (.cells y.L.toArray 31 (0, 0))) := (hbb.block _ HGY.out).trans HY9.out
   have HYIb : Hid (RcIn y wb) := HYI9.out.below hbb
   have HBrb : Hid (Below wr.heap.size wr wb) := HBr9.out.trans (hbb.mono HBr9.out.size)
   have HGYb : Hid (gY < wb.heap.size) := Nat.lt_of_lt_of_le HGY.out hbb.size
   clear hzi hzpl hbb HRX HYP HYI9 HBr9 HY9 HGY
   have HZZ := zh (heap_alloc_new wb (.cells zRc 31))
   go_upto_region 11 with (refine wpList_store_row rfl 31 _ _ rfl wb.heap.size z.L.toArray rfl rfl 31 _ HZZ.out (infoRcA z) rfl (oneRc z) ?_; rw [setRow_new]; have HBbc : Hid (Below wb.heap.size wb (wb.alloc (.cells z.L.toArray 31))) := (Below.refl _ _).alloc (Nat.le_refl _) _; have HZc : Hid ((wb.alloc (.cells z.L.toArray 31)).heap[wb.heap.size]? = some (.cells z.L.toArray 31 (0, 0))) := heap_alloc_new _ _; clear HZZ; generalize World.alloc wb (.cells z.L.toArray 31) = wc at *)
   have HYc : Hid (wc.heap[gY]? = some (.cells y.L.toArray 31 (0, 0))) := (HBbc.out.block _ HGYb.out).trans HYb.out
   have HSA := zh (sameR_any y z wc (HYIb.out.below HBbc.out) (HZI.out.below HBbc.out) HZP.out)
   have HBrc : Hid (Below wr.heap.size wr wc) := HBrb.out.trans (HBbc.out.mono HBrb.out.size)
   generalize wb.heap.size = gZ at *
   have hne : ((D.1 : Int) != (D.1 : Int)) = false := by simp
   clear HYb HYIb HBrb HGYb HBbc HZI HZP
   go_wp2_with (first
    | (refine wpList_load_row rfl 31 _ rfl gY rfl 31 _ (0, 0) _ HYc.out Tryz.underlying31 rfl (infoRcA y) ?_)
    | (refine wpList_load_row rfl 31 _ rfl gZ rfl 31 _ (0, 0) _ HZc.out Tryz.underlying31 rfl (infoRcA z) ?_)
    | (refine wpList_load_row_g (by rfl) 31 _ rfl gY rfl 31 _ (0, 0) _ HYc.out Tryz.underlying31 rfl (infoRcA y) ?_)
    | (refine wpList_load_row_g (by rfl) 31 _ rfl gZ rfl 31 _ (0, 0) _ HZc.out Tryz.underlying31 rfl (infoRcA z) ?_))
   refine HSA.out.mono ?_
   rintro e wd ⟨rfl, hbd⟩
   have HBrd : Hid (Below wr.heap.size wr wd) := HBrc.out.trans (hbd.mono HBrc.out.size)
   clear hbd HSA HYc HZc HBrc hne
   go_wp2_with fail
   go_roundw
   case rel => exact ⟨k + 1, by go_num, by omega, HT.out.below HBrd.out, HB.out.trans (HBrd.out.mono HB.out.size)⟩
   case measure => simp [intOf]; omega
  ·obtain rfl : k = 3 := by omega
   have hd : decide (((3 : Nat) : Int) < 3) = false := by simp
   have HA := zh (awake12_any wr (tabIs_belowR HP.out HB.out HG.out) (Nat.lt_of_lt_of_le HG.out HB.out.size))
   go_wp2_with fail
   refine HA.out.mono ?_
   rintro e w9 ⟨rfl, hb⟩
   have HB9 : Hid (Below w.heap.size w w9) := HB.out.trans (hb.mono HB.out.size)
   clear hb HA
   go_wp2_with fail
   go_ret
   exact ⟨rfl, HB9.out⟩
theorem recordDecodes_args (bsp : Option Addr) (bn bcap : Nat) (bl : List UInt8) (tsp : Option Addr) (tn tcap : Nat) (tl : List Int) (at_ : Int) (w : World) (hbs : BSrc w w.heap.size bsp bn bcap bl) (ht : IntsT w w.heap.size tsp tn tcap tl) (hat : -9223372036854775808 ≤ at_ ∧ at_ ≤ 9223372036854775807) (hp : Lib.TabIs Tryz.prog w "internal/strconv.uint64pow10" .u64 Lib.pow10Tab) (hg : 1 < w.heap.size) :
 Calls Tryz.prog 3 #[.slice bsp bn bcap, .slice tsp tn tcap, .int .i64 at_] w fun e w' => e = .returned (.bool true) ∧ Below w.heap.size w w' :=
 recordDecodes_any bsp bn bcap bl tsp tn tcap tl at_ w hbs ⟨ht.len, ht.cells, ht.wide, ht.short⟩ hat hp hg
end Go.Proofs.YtecllfbadciaoaaGreatDoor
