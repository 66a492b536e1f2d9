/-
  One-time signatures: the walks of Sign, the program's and the reference's (condition: the table of constants reads as it is laid).
-/
import Derived.Test.YtcligodahogpkaaGreatDoorZip
import Derived.Test.YtcligodahogpkaaGreatDoorGp
set_option maxRecDepth 100000
set_option maxHeartbeats 8000000
namespace Go.Proofs.YtcligodahogpkaaGreatDoor
open Go.RowKit Go.Proofs.YtcligodahogpkaaGreatDoor.One
theorem OwnHv.base {w : World} {base base' : Nat} {v : Value} {l : List (List Int)} (h : OwnHv w base v l) (hb : base' ≤ base) : OwnHv w base' v l := by
 refine ⟨?_, h.2⟩
 obtain ⟨h0, h | ⟨g, cap, cur, rfl, hg, h1, h2, h3, h4, h5⟩⟩ := h.1
 ·exact ⟨h0, .inl h⟩
 ·exact ⟨h0, .inr ⟨g, cap, cur, rfl, by omega, h1, h2, h3, h4, h5⟩⟩
structure TwoD (w : World) (x d : List Int) (w0 : World) : Prop where
 x : w0.heap[w.heap.size]? = some (.cells (hvA x) 54 (0, 0))
 d : w0.heap[w.heap.size + 1]? = some (.cells (dgA d) 43 (0, 0))
 b : Below w.heap.size w w0
 s : w0.heap.size = w.heap.size + 2
theorem TwoD.new (w : World) (x d : List Int) : TwoD w x d ((w.alloc (.cells (hvA x) 54)).alloc (.cells (dgA d) 43)) :=
 ⟨(heap_alloc_old _ _ (by simp)).trans (heap_alloc_new w _), by have h := heap_alloc_new (w.alloc (.cells (hvA x) 54)) (.cells (dgA d) 43); rw [World.size_alloc] at h; exact h, ((Below.refl _ _).alloc (Nat.le_refl _) _).alloc (by simp) _, by simp⟩
theorem rS {d : List Int} (hd : D32 d) : (Tryz.prog.info? 43).map (·.size) = some (dgA d).size := by
 have h := jP hd; rw [h]; simp [dgA]
theorem cQ {h : List Int} (hh : H16 h) : (Tryz.prog.info? 54).map (·.size) = some (h.map (Value.int .u8)).length := by
 rw [List.length_map, hh.1]; exact JC
theorem gZ {P : Program} {w : World} {o : Oper} {a : Act} {K : Act → World → Prop} {Q : Exit → Act → World → Prop} (t : TypeId) (n : Nat) (parts : List (Nat × Operand)) (ho : o.op = .buildSlice t n parts.toArray)
 (vs : List (Nat × Value)) (hv : (parts.map fun (i, x) => (i, a.eval x)) = vs) (v : Value) (w' : World) (hrun : (Instr.buildSlice t n vs.toArray).run P w = .ok v w') (h : K (a.put o.dst v) w') : o.wp P a w K Q := by
 unfold Oper.wp execOp
 simp only [ho, Sem.run_bind, List.map_toArray, hv, hrun, Result.andThen_ok]
 exact h
theorem FD (x : List Int) (leaf : Int) (d : List Int) (w : World) (hs : H16 x) (hd : D32 d) (hk : KayIn w) (hk0 : 1 < w.heap.size) :
 Calls Tryz.prog 100 #[.agg (hvA x), .int .i64 leaf, .agg (dgA d)] w fun e w' => ∃ sp cap, e = .returned (.slice sp 68 cap) ∧ OwnHv w' w.heap.size (.slice sp 68 cap) (fF x leaf d) ∧ Below w.heap.size w w' := by
 have HK := zh hk; clear hk
 have HS := zh hs; have HD := zh hd; clear hs hd
 have HT := zh (TwoD.new w x d)
 obtain ⟨i0, hi0, hz0, hz1, hz2⟩ := bF qQ
 have HI0 := zh hi0; have HZ0 := zh hz0; have HZ1 := zh hz1; have HZ2 := zh hz2
 clear hi0 hz0 hz1 hz2
 go_enter Tryz.func100, Tryz.ntmps100
 go_wp2_with (first
  | (at_make; generalize hw0 : World.alloc (World.alloc w _) _ = w0; have HT0 : Hid (TwoD w x d w0) := (by rw [← hw0]; exact HT.out); clear hw0 HT; have hs0 : w.heap.size + 2 ≤ w0.heap.size := Nat.le_of_eq HT0.out.s.symm; refine wpList_make_own _ rfl _ _ 58 rfl (w.heap.size + 2) 54 i0 _ 16 Tryz.underlying58 HI0.out HZ0.out HZ1.out .i64 .i64 68 68 rfl rfl rfl (by rw [HZ2.out]; decide) (by unfold maxLen; decide) hs0 ?_; intro w1 HO1 HG1; have HO1' := zh HO1; have HB1 : Hid (Below (w.heap.size + 2) w0 w1) := (Below.refl _ w0).grown HG1 hs0 (fun k e => by cases e); have HDR : Hid (w1.heap[w.heap.size + 1]? = some (.cells (dgA d) 43 (0, 0))) := (HB1.out.block _ (by omega)).trans HT0.out.d; have hs1 : w.heap.size + 2 ≤ w1.heap.size := (by have := HB1.out.size; omega); clear HO1 HG1)
  | (refine wpList_load_row rfl 43 _ rfl (w.heap.size + 1) rfl 43 _ (0, 0) _ HDR.out Tryz.underlying43 rfl (rS HD.out) ?_))
 refine (qW d HD.out w1).mono ?_
 rintro e w2 ⟨spd, capd, rfl, hdg, hb2⟩
 obtain ⟨gd, rfl, hgd, hdgi, hcap⟩ := hdg.dg (dE HD.out.1) (by decide)
 generalize hb : w.heap.size = b at *
 have HBZ := zh hb; clear hb hdg
 have HX2 : Hid (w2.heap[b]? = some (.cells (hvA x) 54 (0, 0))) := by
  have h := HT0.out.x; rw [HBZ.out] at h; exact (hb2.block b (by omega)).trans ((HB1.out.block b (by omega)).trans h)
 have HB2 : Hid (Below b w w2) := by
  have h := HT0.out.b; rw [HBZ.out] at h; exact h.trans ((HB1.out.mono (by omega)).trans (hb2.mono (by omega)))
 have HDG := zh hdgi
 have hz2 : b + 2 ≤ w2.heap.size := by have := hb2.size; omega
 have HO2 : Hid (OwnHv w2 (b + 2) (.slice (some ⟨w0.heap.size, 0, none⟩) 0 68) []) := ⟨eN HO1'.out hb2, by simp⟩
 have HK2 : Hid (KayIn w2) := HK.out.below HB2.out hk0
 clear HT0 HB1 hb2 hdgi hs0 hs1 HO1' HDR HI0 HZ0 HZ1 HZ2 HK
 go_wp2_with fail
 go_loopw [7, 14] (fun v i wr => ∃ k : Nat, k ≤ 68 ∧ i = .int .i64 k ∧ Hid (OwnHv wr (b + 2) v ((List.range k).map (vI x leaf d))) ∧ Hid (DgIn wr gd (digs d)) ∧ Hid (Below (b + 2) w2 wr)) (fun _ i _ => 68 - (intOf i).toNat)
 case atStart => exact ⟨0, by omega, rfl, HO2.out, HDG.out, Below.refl _ _⟩
 case round =>
  clear HO2 HDG
  obtain ⟨k, hk, rfl, HOW, HDW, HBR⟩ := hrel
  have hszr : b + 2 ≤ wr.heap.size := by have := HBR.out.size; omega
  by_cases hlt : k < 68
  ·have HXR : Hid (wr.heap[b]? = some (.cells (hvA x) 54 (0, 0))) := (HBR.out.block b (by omega)).trans HX2.out
   have c1 := HDW.out.cell (j := k) (by rw [dE HD.out.1]; exact hlt)
   have HGL := zh HDW.out.lt
   have HSN := zh (eL (vI x leaf d) k)
   have HLK : Hid (k = ((List.range k).map (vI x leaf d)).length) := by show _ = _; simp
   have HY := zh (xI x leaf d k)
   have HEE : Hid (dJ (sM x leaf k) leaf k 0 ((digs d).getD k 0) = vI x leaf d k) := rfl
   generalize vI x leaf d k = y at *
   generalize (digs d).getD k 0 = q at *
   have hd1 : decide ((k : Int) < 68) = true := by simp; omega
   have p1 : (0 : Int) ≤ (k : Int) := by omega
   have p2 : (k : Int) < 68 := by omega
   have HKR : Hid (KayIn wr) := HK2.out.below HBR.out (by omega)
   have hkr : 1 < wr.heap.size := by omega
   go_wp2_with (refine wpList_load_row rfl 54 _ rfl b rfl 54 _ (0, 0) _ HXR.out Tryz.underlying54 rfl (aN HS.out) ?_)
   refine (qG x leaf k wr HS.out HKR.out hkr).mono ?_
   rintro e w5 ⟨rfl, hb5⟩
   have HB5 := zh hb5; clear hb5
   have HK5 : Hid (KayIn w5) := HKR.out.below HB5.out hkr
   have hk5 : 1 < w5.heap.size := by have := HB5.out.size; omega
   go_wp2_with fail
   refine (pG (sM x leaf k) leaf k 0 q w5 (dL _ _ _) HK5.out hk5).mono ?_
   rintro e w6 ⟨rfl, hb6⟩
   have HB6 : Hid (Below wr.heap.size wr w6) := HB5.out.trans (hb6.mono HB5.out.size)
   clear hb6
   have hs6 : b + 2 ≤ w6.heap.size := by have := HB6.out.size; omega
   have HO6 := zh (HOW.out.below HB6.out)
   rw [HEE.out]
   go_wp2_with (first
    | (refine bR rfl 58 1 [(0, .tmp 27)] rfl [(0, .agg (hvA y))] rfl _ _ (kW _ y HY.out) ?_; generalize hw7 : World.alloc w6 _ = w7; have hr7 : w7.rangeAt w6.heap.size 0 (y.map (Value.int .u8)) := (by rw [← hw7]; intro j v hv; rw [Nat.zero_add]; exact aH (heap_alloc_new w6 _) hv); have hb7 : Below w6.heap.size w6 w7 := (by rw [← hw7]; exact aB _ _); have HR7 := zh hr7; have HB7 := zh hb7; have HO7 := zh (HO6.out.below hb7); have hs7 := hb7.size; have hs7b : b + 2 ≤ w7.heap.size := (by omega); clear hw7 hr7 hb7)
    | (at_builtin; refine fR rfl (.tmp 19) (.tmp 28) rfl (b + 2) _ _ k HLK.out rfl HO7.out w6.heap.size y rfl HR7.out HY.out (by omega) hs7b ?_; intro sp8 cap8 w8 HO8 HB8 HG8))
   have HD7 : Hid (DgIn w7 gd (digs d)) := (HDW.out.below HB6.out HGL.out).below HB7.out (by have := HB6.out.size; have := HGL.out; omega)
   go_roundw
   case rel => exact ⟨k + 1, by omega, by go_num, by rw [HSN.out]; exact HO8, HD7.out.grown HO7.out HG8.out, HBR.out.trans ((HB6.out.mono (by omega)).trans ((HB7.out.mono (by omega)).trans HB8.out))⟩
   case measure => simp [intOf]; omega
  ·obtain rfl : k = 68 := by omega
   have hd1 : decide (((68 : Nat) : Int) < 68) = false := by simp
   obtain ⟨sp', cap', rfl⟩ := aZ HOW.out.1
   have MQ : Hid (((List.range 68).map (vI x leaf d)).length = 68) := by show _ = _; simp
   rw [MQ.out] at *
   go_wp2_with fail
   go_ret
   exact ⟨sp', cap', rfl, by rw [HBZ.out]; exact (HOW.out).base (by omega), by rw [HBZ.out]; exact HB2.out.trans (HBR.out.mono (by omega))⟩
theorem BR (x : List Int) (leaf : Int) (d : List Int) (w : World) (hs : H16 x) (hd : D32 d) :
 Calls Tryz.prog 88 #[.agg (hvA x), .int .i64 leaf, .agg (dgA d)] w fun e w' => ∃ sp cap, e = .returned (.slice sp 68 cap) ∧ OwnHv w' w.heap.size (.slice sp 68 cap) (fF x leaf d) ∧ Below w.heap.size w w' := by
 skip
 have HS := zh hs; have HD := zh hd; clear hs hd
 have HT := zh (TwoD.new w x d)
 go_enter Tryz.func88, Tryz.ntmps88
 go_wp2_with (generalize hw0 : World.alloc (World.alloc w _) _ = w0; have HT0 : Hid (TwoD w x d w0) := (by rw [← hw0]; exact HT.out); clear hw0 HT; have hs0 : w.heap.size + 2 ≤ w0.heap.size := Nat.le_of_eq HT0.out.s.symm; have HDR : Hid (w0.heap[w.heap.size + 1]? = some (.cells (dgA d) 43 (0, 0))) := HT0.out.d; refine wpList_load_row rfl 43 _ rfl (w.heap.size + 1) rfl 43 _ (0, 0) _ HDR.out Tryz.underlying43 rfl (rS HD.out) ?_)
 obtain ⟨w1, hw1⟩ : ∃ w1, w1 = w0 := ⟨_, rfl⟩
 have HB1 : Hid (Below (w.heap.size + 2) w0 w1) := by rw [hw1]; exact Below.refl _ _
 rw [← hw1]
 have hs1 : w.heap.size + 2 ≤ w1.heap.size := by rw [hw1]; exact hs0
 clear hw1 HDR
 refine (vT d HD.out w1).mono ?_
 rintro e w2 ⟨spd, capd, rfl, hdg, hb2⟩
 obtain ⟨gd, rfl, hgd, hdgi, hcap⟩ := hdg.dg (dE HD.out.1) (by decide)
 generalize hb : w.heap.size = b at *
 have HBZ := zh hb; clear hb hdg
 have HX2 : Hid (w2.heap[b]? = some (.cells (hvA x) 54 (0, 0))) := by
  have h := HT0.out.x; rw [HBZ.out] at h; exact (hb2.block b (by omega)).trans ((HB1.out.block b (by omega)).trans h)
 have HB2 : Hid (Below b w w2) := by
  have h := HT0.out.b; rw [HBZ.out] at h; exact h.trans ((HB1.out.mono (by omega)).trans (hb2.mono (by omega)))
 have HDG := zh hdgi
 have hz2 : b + 2 ≤ w2.heap.size := by have := hb2.size; omega
 have HO2 : Hid (OwnHv w2 (b + 2) (.slice none 0 0) []) := OwnHv.nil _ _
 skip
 clear HT0 HB1 hb2 hdgi hs0 hs1
 go_wp2_with fail
 go_loopw [8, 9] (fun v i wr => ∃ k : Nat, k ≤ 68 ∧ i = .int .i64 k ∧ Hid (OwnHv wr (b + 2) v ((List.range k).map (vI x leaf d))) ∧ Hid (DgIn wr gd (digs d)) ∧ Hid (Below (b + 2) w2 wr)) (fun _ i _ => 68 - (intOf i).toNat)
 case atStart => exact ⟨0, by omega, rfl, HO2.out, HDG.out, Below.refl _ _⟩
 case round =>
  clear HO2 HDG
  obtain ⟨k, hk, rfl, HOW, HDW, HBR⟩ := hrel
  have hszr : b + 2 ≤ wr.heap.size := by have := HBR.out.size; omega
  by_cases hlt : k < 68
  ·have HXR : Hid (wr.heap[b]? = some (.cells (hvA x) 54 (0, 0))) := (HBR.out.block b (by omega)).trans HX2.out
   have c1 := HDW.out.cell (j := k) (by rw [dE HD.out.1]; exact hlt)
   have HGL := zh HDW.out.lt
   have HSN := zh (eL (vI x leaf d) k)
   have HLK : Hid (k = ((List.range k).map (vI x leaf d)).length) := by show _ = _; simp
   have HY := zh (xI x leaf d k)
   have HEE : Hid (dJ (sM x leaf k) leaf k 0 ((digs d).getD k 0) = vI x leaf d k) := rfl
   generalize vI x leaf d k = y at *
   have hqk : (some (.int .i64 ((digs d).getD k 0)) : Option Value) = some (.int .i64 ((digs d).getD k 0)) := rfl
   obtain ⟨q, hq⟩ : ∃ q, q = (digs d).getD k 0 := ⟨_, rfl⟩
   rw [← hq] at c1 HEE
   have HQK : Hid ((some (.int .i64 ((digs d).getD k 0)) : Option Value) = some (.int .i64 q)) := by rw [hq]; exact rfl
   clear hqk hq
   have hd1 : decide ((k : Int) < 68) = true := by simp; omega
   have p1 : (0 : Int) ≤ (k : Int) := by omega
   have p2 : (k : Int) < 68 := by omega
   have HID := zh (cQ HS.out)
   have HXG : Hid (wr.rangeAt b 0 (x.map (Value.int .u8))) := by intro j v hv; rw [Nat.zero_add]; exact aH HXR.out hv
   have HCS := zh (fun w' => (show Calls Tryz.prog 127 #[.agg (x.map (Value.int .u8)).toArray, .int .i64 leaf, .int .i64 k] w' fun e w'' => e = .returned (.agg (hvA (sM x leaf k))) ∧ Below w'.heap.size w' w'' from oN x leaf k w' HS.out))
   have HCC := zh (fun w' => (show Calls Tryz.prog 126 #[.agg (hvA (sM x leaf k)), .int .i64 leaf, .int .i64 k, .int .i64 0, .int .i64 q] w' fun e w'' => e = .returned (.agg (hvA y)) ∧ Below w'.heap.size w' w'' from by rw [← HEE.out]; exact qK (sM x leaf k) leaf k 0 q w' (dL _ _ _)))
   go_wp2_with fail
   refine wp_region_held_drew (S := fun w' => w'.rangeAt b 0 (x.map (Value.int .u8)) ∧ w'.cell? ⟨gd, k, none⟩ = some (.int .i64 q)) (by kernel_rfl) ⟨HXG.out, c1⟩ (fun hHeld => ?_)
   refine zv 0 rfl ?_
   refine' zk 1 rfl (v := _) (yieldsIf_load_mid (by rfl) _ _ rfl _ _ rfl _ _ ?hS1n2 Tryz.underlying54 rfl HID.out) ?rest1n2
   case hS1n2 =>
    intro w' hSw
    exact hSw.1
   try simp only [Act.put, zA, zB, zC, zD, zE, zF]
   refine zv 2 rfl ?_
   refine zv 3 rfl ?_
   refine zv 5 rfl ?_
   refine zv 6 rfl ?_
   refine zv 7 rfl ?_
   refine zv 8 rfl ?_
   refine zv 9 rfl ?_
   refine zx 10 rfl (v := ?_) ?_ ?_; rotate_left
   ·intro w' hSw; have hq := hSw.2; go_simp; try with_reducible rfl
   refine zr 4 rfl (fun K hK => ?_)
   go_simp
   with_reducible refine (HCS.out _).mono ?_
   rintro e w5 ⟨rfl, hb⟩
   have HB5 : Hid (Below wr.heap.size wr w5) := (Below.refl _ _).drew.trans hb
   clear hb
   have HX5 : Hid (w5.rangeAt b 0 (x.map (Value.int .u8)) ∧ w5.cell? ⟨gd, k, none⟩ = some (.int .i64 q)) := ⟨aA HXG.out HB5.out (by omega), (HB5.out.cell (p := ⟨gd, k, none⟩) HGL.out).trans c1⟩
   go_wp2_with fail
   refine hK.out _ _ HX5.out fun _ => ?_; clear hK K
   try simp only [Act.put, zA, zB, zC, zD, zE, zF]
   refine zr 11 rfl (fun K hK => ?_)
   go_simp
   with_reducible refine (HCC.out _).mono ?_
   rintro e w6 ⟨rfl, hb⟩
   have HB6 : Hid (Below wr.heap.size wr w6) := HB5.out.trans (hb.mono HB5.out.size)
   clear hb
   have HX6 : Hid (w6.rangeAt b 0 (x.map (Value.int .u8)) ∧ w6.cell? ⟨gd, k, none⟩ = some (.int .i64 q)) := ⟨aA HXG.out HB6.out (by omega), (HB6.out.cell (p := ⟨gd, k, none⟩) HGL.out).trans c1⟩
   have hs6 : b + 2 ≤ w6.heap.size := by have := HB6.out.size; omega
   have HO6 := zh (HOW.out.below HB6.out)
   go_wp2_with fail
   refine hK.out _ _ HX6.out fun _ => ?_; clear hK K
   try simp only [Act.put, zA, zB, zC, zD, zE, zF]
   refine zr 12 rfl (fun K hK => ?_)
   rw [if_pos (by rfl)]
   refine gZ 58 1 [(0, .tmp 27)] rfl [(0, .agg (hvA y))] rfl _ _ (kW _ y HY.out) ?_
   generalize hw7 : World.alloc w6 _ = w7
   have hr7 : w7.rangeAt w6.heap.size 0 (y.map (Value.int .u8)) := by rw [← hw7]; intro j v hv; rw [Nat.zero_add]; exact aH (heap_alloc_new w6 _) hv
   have hb7 : Below w6.heap.size w6 w7 := by rw [← hw7]; exact aB _ _
   have HR7 := zh hr7; have HB7 := zh hb7; have HO7 := zh (HO6.out.below hb7)
   have hs7 := hb7.size
   have hs7b : b + 2 ≤ w7.heap.size := by omega
   have HD7 : Hid (DgIn w7 gd (digs d)) := (HDW.out.below HB6.out HGL.out).below HB7.out (by have := HB6.out.size; have := HGL.out; omega)
   have HX7 : Hid (w7.rangeAt b 0 (x.map (Value.int .u8))) := aA HX6.out.1 HB7.out (by omega)
   clear hw7 hr7 hb7 hs7
   refine hK.out _ _ ⟨HX7.out, (HD7.out.cell (by rw [dE HD.out.1]; exact hlt)).trans HQK.out⟩ fun _ => ?_; clear hK K
   try simp only [Act.put, zA, zB, zC, zD, zE, zF]
   refine zr 13 rfl (fun K hK => ?_)
   rw [if_pos (by rfl)]
   refine hF (.tmp 16) (.tmp 28) rfl (b + 2) _ _ k HLK.out rfl HO7.out w6.heap.size y rfl HR7.out HY.out (by omega) hs7b ?_
   intro sp8 cap8 w8 HO8 HB8 HG8
   have HD8 : Hid (DgIn w8 gd (digs d)) := HD7.out.grown HO7.out HG8.out
   have HX8 : Hid (w8.rangeAt b 0 (x.map (Value.int .u8))) := aA HX7.out HB8.out (by omega)
   refine hK.out _ _ ⟨HX8.out, (HD8.out.cell (by rw [dE HD.out.1]; exact hlt)).trans HQK.out⟩ fun _ => ?_; clear hK K
   try simp only [Act.put, zA, zB, zC, zD, zE, zF]
   refine zv 14 rfl ?_
   refine zd ?_ _
   go_wp2_with fail
   go_roundw
   case rel => exact ⟨k + 1, by omega, by go_num, by rw [HSN.out]; exact HO8, HD8.out, HBR.out.trans ((HB6.out.mono (by omega)).trans ((HB7.out.mono (by omega)).trans HB8.out))⟩
   case measure => simp [intOf]; omega
  ·obtain rfl : k = 68 := by omega
   have hd1 : decide (((68 : Nat) : Int) < 68) = false := by simp
   obtain ⟨sp', cap', rfl⟩ := aZ HOW.out.1
   have MQ : Hid (((List.range 68).map (vI x leaf d)).length = 68) := by show _ = _; simp
   rw [MQ.out] at *
   go_wp2_with fail
   go_ret
   exact ⟨sp', cap', rfl, by rw [HBZ.out]; exact (HOW.out).base (by omega), by rw [HBZ.out]; exact HB2.out.trans (HBR.out.mono (by omega))⟩
end Go.Proofs.YtcligodahogpkaaGreatDoor
