/-
  One-time signatures: the walks of Recover, the program's and the reference's (condition: the table of constants reads as it is laid).
-/
import Derived.Test.YtjeiiabpdoelpaaGreatDoorZip
import Derived.Test.YtjeiiabpdoelpaaGreatDoorOneR
namespace Go.Proofs.YtjeiiabpdoelpaaGreatDoor
open Go.RowKit Go.Proofs.YtjeiiabpdoelpaaGreatDoor.One
theorem eB {P : Program} {fn : Func} {p u : Tmp} {ty : TypeId} (h : fn.results = #[.cell p ty, .tmp u]) (tmps : Array Value) (w : World) (g : Nat) (t : TypeId) (cs : Array Value) (fr : Nat × Nat) (d : TypeDesc)
 (hp : tmps.getD p undef = .pointer (some ⟨g, 0, none⟩)) (hg : w.heap[g]? = some (.cells cs t fr))
 (hu : P.underlying ty = some d) (hd : (match d with | .struct _ | .array _ _ => true | _ => false) = true) (hi : (P.info? ty).map (·.size) = some cs.size) :
 (results fn tmps).run P w = .ok (.tuple #[.agg cs, tmps.getD u undef]) w := by
 rw [results_cell_tmp h, hp]
 simp [asAddr, run_loadVar_row w g t ty cs fr d hg hu hd hi]
def bJ : List Int := List.replicate 16 0
theorem aD : H16 bJ := ⟨rfl, fun x hx => by rw [List.eq_of_mem_replicate hx]; omega⟩
structure DTwo (w : World) (d : List Int) (w0 : World) : Prop where
 d : w0.heap[w.heap.size]? = some (.cells (dgA d) 46 (0, 0))
 z : w0.heap[w.heap.size + 1]? = some (.cells (Array.replicate 16 (Value.int .u8 0)) 37 (0, 0))
 b : Below w.heap.size w w0
 s : w0.heap.size = w.heap.size + 2
theorem DTwo.new (w : World) (d : List Int) : DTwo w d ((w.alloc (.cells (dgA d) 46)).alloc (.cells (Array.replicate 16 (Value.int .u8 0)) 37)) :=
 ⟨(heap_alloc_old _ _ (by simp)).trans (heap_alloc_new w _), by have h := heap_alloc_new (w.alloc (.cells (dgA d) 46)) (.cells (Array.replicate 16 (Value.int .u8 0)) 37); rw [World.size_alloc] at h; exact h, ((Below.refl _ _).alloc (Nat.le_refl _) _).alloc (by simp) _, by simp⟩
structure DThree (w : World) (d : List Int) (w0 : World) : Prop where
 d : w0.heap[w.heap.size]? = some (.cells (dgA d) 46 (0, 0))
 z : w0.heap[w.heap.size + 1]? = some (.cells (Array.replicate 16 (Value.int .u8 0)) 37 (0, 0))
 e : w0.there (w.heap.size + 1 + 1) 0 1088
 b : Below w.heap.size w w0
 s : w0.heap.size = w.heap.size + 3
theorem DThree.new (w : World) (d : List Int) : DThree w d (((w.alloc (.cells (dgA d) 46)).alloc (.cells (Array.replicate 16 (Value.int .u8 0)) 37)).alloc (.cells wT 176)) := by
 have h := DTwo.new w d
 generalize (w.alloc (.cells (dgA d) 46)).alloc (.cells (Array.replicate 16 (Value.int .u8 0)) 37) = w1 at *
 have h2 := vB w1 176
 have b2 := aB w1 (.cells wT 176)
 have s2 := aH w1 (.cells wT 176)
 generalize w1.alloc (.cells wT 176) = w2 at *
 have hs := h.s
 rw [hs] at h2
 exact ⟨(b2.block _ (by omega)).trans h.d, (b2.block _ (by omega)).trans h.z, h2, h.b.trans (b2.mono (by omega)), by omega⟩
theorem mT {leaf : Int} {d : List Int} {w : World} {B : Nat} {sp : Option Addr} {cap : Nat} {sig : List (List Int)} (h : HvsIn w B sp 68 cap sig) (i : Nat) (hi : i < 68) : H16 (rQ leaf d sig i) := lQ (h.at16 hi) _ _ _ _
set_option maxRecDepth 100000 in
set_option maxHeartbeats 4000000 in
theorem tZ (leaf : Int) (d : List Int) (sp : Option Addr) (cap : Nat) (l : List (List Int)) (w : World) (hd : D32 d) (hl : HvsIn w w.heap.size sp 68 cap l) (hk : KayIn w) (hk0 : 1 < w.heap.size) :
 Calls Tryz.prog 106 #[.int .i64 leaf, .agg (dgA d), .slice sp 68 cap] w fun e w' => e = .returned (.tuple #[.agg (hvA (vJ leaf d l)), .bool true]) ∧ Below w.heap.size w w' := by
 have HK := Lib.hid hk; clear hk
 have HD := Lib.hid hd; have HLV := Lib.hid hl
 obtain ⟨sb, so, hpl⟩ := hl.place
 obtain rfl := hpl (by decide)
 obtain ⟨sb', so', he, hsb, hsc, _⟩ := hl.cells (by decide)
 injection he with he; injection he with he1 he2; subst he1 he2
 clear hd hl hpl
 have HT := Lib.hid (DThree.new w d)
 have hz := FP
 go_enter Tryz.func106, Tryz.ntmps106
 go_wp2_with (generalize hw0 : World.alloc (World.alloc (World.alloc w _) _) _ = w0; have HT0 : Hid (DThree w d w0) := (by rw [← hw0]; exact HT.out); have HDR : Hid (w0.heap[w.heap.size]? = some (.cells (dgA d) 46 (0, 0))) := HT0.out.d; clear hw0 HT; refine wpList_load_row rfl 46 _ rfl w.heap.size rfl 46 _ (0, 0) _ HDR.out Tryz.underlying46 rfl (lJ HD.out) ?_)
 clear hz
 refine (pP d HD.out w0).mono ?_
 rintro e w2 ⟨spd, capd, rfl, hdg, hb2⟩
 obtain ⟨gd, rfl, hgd, hdgi, hcap⟩ := hdg.dg (bT HD.out.1) (by decide)
 have hs0 := HT0.out.s
 have HLW : Hid (HvsIn w2 w.heap.size (some ⟨sb, so, none⟩) 68 cap l) := HLV.out.below (HT0.out.b.trans (hb2.mono (by omega))) (Nat.le_refl _)
 generalize hb : w.heap.size = b at *
 have HBZ := Lib.hid hb; clear hb hdg
 have HZ2 : Hid (w2.heap[b + 1]? = some (.cells (Array.replicate 16 (Value.int .u8 0)) 37 (0, 0))) := by
  have h := HT0.out.z; rw [HBZ.out] at h; exact (hb2.block _ (by omega)).trans h
 have HB2 : Hid (Below b w w2) := by
  have h := HT0.out.b; rw [HBZ.out] at h; exact h.trans (hb2.mono (by omega))
 have HDG := Lib.hid hdgi
 have hz2 : b + 2 ≤ w2.heap.size := by have := hb2.size; omega
 have HE2 : Hid (w2.there (b + 1 + 1) 0 1088) := by have h := HT0.out.e; rw [HBZ.out] at h; exact iT h hb2 (by omega)
 have hgd2 : gd ≠ b + 1 + 1 := by omega
 have hgz : b + 1 + 1 < w2.heap.size := by have := hb2.size; omega
 have HK2 : Hid (KayIn w2) := HK.out.below HB2.out hk0
 clear HT0 hb2 hdgi hs0 HDR HK
 go_wp2_with fail
 go_loopw [18] (fun i wr => ∃ k : Nat, k ≤ 68 ∧ i = .int .i64 k ∧ Hid (EndsIn wr (b + 1 + 1) k (rQ leaf d l)) ∧ Hid (DgIn wr gd (digs d)) ∧ Hid (Below (b + 1 + 1) w2 wr)) (fun i _ => 68 - (intOf i).toNat)
 case atStart => exact ⟨0, by omega, rfl, ⟨fun i hi => absurd hi (by omega), HE2.out⟩, HDG.out, Below.refl _ _⟩
 case round =>
  clear HE2 HDG
  obtain ⟨k, hk, rfl, HER, HDW, HBR⟩ := hrel
  have hszr : b + 2 ≤ wr.heap.size := by have := HBR.out.size; omega
  have hgzr : b + 1 + 1 < wr.heap.size := by have := HBR.out.size; omega
  have HKR : Hid (KayIn wr) := HK2.out.below HBR.out (by omega)
  have hkr : 1 < wr.heap.size := by omega
  by_cases hlt : k < 68
  ·have c1 := HDW.out.cell (j := k) (by rw [bT HD.out.1]; exact hlt)
   have HGL := Lib.hid HDW.out.lt
   have HSG : Hid (wr.rangeAt sb (so + k * 16) ((l.getD k []).map (Value.int .u8))) := by
    obtain ⟨sb', so', he, _, _, hr⟩ := (HLW.out.below HBR.out (by omega)).cells (by decide)
    injection he with he; injection he with he1 he2; subst he1 he2
    exact hr k hlt
   have OQ := Lib.hid (HLW.out.at16 hlt)
   have HY := Lib.hid (mT (leaf := leaf) (d := d) HLW.out k hlt)
   have HEE : Hid (dB (l.getD k []) leaf k ((digs d).getD k 0) 3 = rQ leaf d l k) := rfl
   generalize hy : rQ leaf d l k = y at *
   have HYY := Lib.hid hy; clear hy
   generalize l.getD k [] = z at *
   generalize (digs d).getD k 0 = q at *
   have HIZ : Hid ((Tryz.prog.info? 37).map (·.size) = some (z.map (Value.int .u8)).length) := bR OQ.out
   have HCC := Lib.hid (show Calls Tryz.prog 111 #[.agg (z.map (Value.int .u8)).toArray, .int .i64 leaf, .int .i64 k, .int .i64 q, .int .i64 3] wr fun e w'' => e = .returned (.agg (hvA y)) ∧ Below wr.heap.size wr w'' from by rw [← HEE.out]; exact oC z leaf k q 3 wr OQ.out HKR.out hkr)
   have hd1 : decide ((k : Int) < 68) = true := by simp; omega
   have p1 : (0 : Int) ≤ (k : Int) := by omega
   have p2 : (k : Int) < 68 := by omega
   go_wp2_with (refine wpList_load_mid rfl 37 _ rfl sb (so + k * 16) rfl _ _ HSG.out Tryz.underlying37 rfl HIZ.out ?_)
   refine HCC.out.mono ?_
   rintro e w6 ⟨rfl, hb6⟩
   have HB6 := Lib.hid hb6; clear hb6
   have HE6 : Hid (EndsIn w6 (b + 1 + 1) k (rQ leaf d l)) := HER.out.below HB6.out hgzr
   have HSE : Hid ((hvA y).size = 16) := by show _ = _; simp [hvA, HY.out.1]
   go_wp2_with (refine wpList_store_mid rfl 37 _ _ rfl (b + 1 + 1) (k * 16) (hvA y) rfl rfl (by rw [HSE.out]; exact HE6.out.at_ hlt) (aI HY.out) (cQ _) ?_; generalize hw7 : World.setCells w6 _ _ _ = w7; have HE7 : Hid (EndsIn w7 (b + 1 + 1) (k + 1) (rQ leaf d l)) := (by rw [← hw7, ← HYY.out]; exact HE6.out.put (fun i hi => mT HLW.out i hi) hlt); have HD7 : Hid (DgIn w7 gd (digs d)) := (by rw [← hw7]; exact (HDW.out.below HB6.out HGL.out).put hgd2); have HB7 : Hid (Below (b + 1 + 1) w2 w7) := (by rw [← hw7]; exact dS (Nat.le_refl _) _ _ _ (HBR.out.trans (HB6.out.mono (by omega)))); clear hw7)
   go_roundw
   case rel => exact ⟨k + 1, by omega, by go_num, HE7, HD7, HB7⟩
   case measure => simp [intOf]; omega
  ·obtain rfl : k = 68 := by omega
   have hd1 : decide (((68 : Nat) : Int) < 68) = false := by simp
   have HHV := Lib.hid (HER.out.hvs (fun i hi => mT HLW.out i hi) hgzr)
   have HZR : Hid (wr.heap[b + 1]? = some (.cells (Array.replicate 16 (Value.int .u8 0)) 37 (0, 0))) := (HBR.out.block _ (by omega)).trans HZ2.out
   have HBW : Hid (Below b w wr) := HB2.out.trans (HBR.out.mono (by omega))
   go_wp2_with fail
   refine (oB leaf _ 68 68 _ wr HHV.out (by omega) HKR.out hkr).mono ?_
   rintro e w6 ⟨rfl, hb6⟩
   have HZ6 : Hid (w6.heap[b + 1]? = some (.cells (Array.replicate 16 (Value.int .u8 0)) 37 (0, 0))) := (hb6.block _ (by omega)).trans HZR.out
   have HB6 : Hid (Below b w w6) := HBW.out.trans (hb6.mono (by omega))
   have HPE : Hid (BP leaf ((List.range 68).map (rQ leaf d l)) = vJ leaf d l) := rfl
   rw [HPE.out]
   clear hb6
   go_wp2_with (refine wpList_store_row rfl 37 _ _ rfl (b + 1) _ rfl rfl 37 _ HZ6.out (aI (eS _ _ _)) (cW (eS _ _ _)) (cQ _) ?_)
   exact bodyPost_ret (eB (P := Tryz.prog) rfl _ _ (b + 1) 37 _ (0, 0) _ rfl (setRow_heap _ _ _ _ _ _ HZ6.out) Tryz.underlying37 rfl (aI (eS _ _ _))) rfl ⟨rfl, by rw [HBZ.out]; exact below_setRow HB6.out (by omega) _⟩
set_option maxRecDepth 100000 in
set_option maxHeartbeats 4000000 in
theorem rJ (leaf : Int) (d : List Int) (sp : Option Addr) (cap : Nat) (l : List (List Int)) (w : World) (hd : D32 d) (hl : HvsIn w w.heap.size sp 68 cap l) :
 Calls Tryz.prog 108 #[.int .i64 leaf, .agg (dgA d), .slice sp 68 cap] w fun e w' => e = .returned (.tuple #[.agg (hvA (vJ leaf d l)), .bool true]) ∧ Below w.heap.size w w' := by
 skip
 have HD := Lib.hid hd; have HLV := Lib.hid hl
 obtain ⟨sb, so, hpl⟩ := hl.place
 obtain rfl := hpl (by decide)
 obtain ⟨sb', so', he, hsb, hsc, _⟩ := hl.cells (by decide)
 injection he with he; injection he with he1 he2; subst he1 he2
 clear hd hl hpl
 have HT := Lib.hid (DTwo.new w d)
 skip
 go_enter Tryz.func108, Tryz.ntmps108
 go_wp2_with (generalize hw0 : World.alloc (World.alloc w _) _ = w0; have HT0 : Hid (DTwo w d w0) := (by rw [← hw0]; exact HT.out); have HDR : Hid (w0.heap[w.heap.size]? = some (.cells (dgA d) 46 (0, 0))) := HT0.out.d; clear hw0 HT; refine wpList_load_row rfl 46 _ rfl w.heap.size rfl 46 _ (0, 0) _ HDR.out Tryz.underlying46 rfl (lJ HD.out) ?_)
 skip
 refine (nR d HD.out w0).mono ?_
 rintro e w2 ⟨spd, capd, rfl, hdg, hb2⟩
 obtain ⟨gd, rfl, hgd, hdgi, hcap⟩ := hdg.dg (bT HD.out.1) (by decide)
 have hs0 := HT0.out.s
 have HLW : Hid (HvsIn w2 w.heap.size (some ⟨sb, so, none⟩) 68 cap l) := HLV.out.below (HT0.out.b.trans (hb2.mono (by omega))) (Nat.le_refl _)
 generalize hb : w.heap.size = b at *
 have HBZ := Lib.hid hb; clear hb hdg
 have HZ2 : Hid (w2.heap[b + 1]? = some (.cells (Array.replicate 16 (Value.int .u8 0)) 37 (0, 0))) := by
  have h := HT0.out.z; rw [HBZ.out] at h; exact (hb2.block _ (by omega)).trans h
 have HB2 : Hid (Below b w w2) := by
  have h := HT0.out.b; rw [HBZ.out] at h; exact h.trans (hb2.mono (by omega))
 have HDG := Lib.hid hdgi
 have hz2 : b + 2 ≤ w2.heap.size := by have := hb2.size; omega
 clear HT0 hb2 hdgi hs0 HDR
 go_wp2_with fail
 go_loopw [9, 10] (fun v i wr => ∃ k : Nat, k ≤ 68 ∧ i = .int .i64 k ∧ Hid (OwnHv wr (b + 2) v ((List.range k).map (rQ leaf d l))) ∧ Hid (DgIn wr gd (digs d)) ∧ Hid (Below (b + 2) w2 wr)) (fun _ i _ => 68 - (intOf i).toNat)
 case atStart => exact ⟨0, by omega, rfl, OwnHv.nil _ _, HDG.out, Below.refl _ _⟩
 case round =>
  clear HDG
  obtain ⟨k, hk, rfl, HOW, HDW, HBR⟩ := hrel
  have hszr : b + 2 ≤ wr.heap.size := by have := HBR.out.size; omega
  by_cases hlt : k < 68
  ·have c1 := HDW.out.cell (j := k) (by rw [bT HD.out.1]; exact hlt)
   have HGL := Lib.hid HDW.out.lt
   have HSG : Hid (wr.rangeAt sb (so + k * 16) ((l.getD k []).map (Value.int .u8))) := by
    obtain ⟨sb', so', he, _, _, hr⟩ := (HLW.out.below HBR.out (by omega)).cells (by decide)
    injection he with he; injection he with he1 he2; subst he1 he2
    exact hr k hlt
   have OQ := Lib.hid (HLW.out.at16 hlt)
   have HSN := Lib.hid (dP (rQ leaf d l) k)
   have HLK : Hid (k = ((List.range k).map (rQ leaf d l)).length) := by show _ = _; simp
   have HY := Lib.hid (mT (leaf := leaf) (d := d) HLW.out k hlt)
   have HEE : Hid (dB (l.getD k []) leaf k ((digs d).getD k 0) 3 = rQ leaf d l k) := rfl
   generalize rQ leaf d l k = y at *
   generalize l.getD k [] = z at *
   obtain ⟨q, hq⟩ : ∃ q, q = (digs d).getD k 0 := ⟨_, rfl⟩
   rw [← hq] at c1 HEE
   have HQK : Hid ((some (.int .i64 ((digs d).getD k 0)) : Option Value) = some (.int .i64 q)) := by rw [hq]; exact rfl
   clear hq
   have HIZ : Hid ((Tryz.prog.info? 37).map (·.size) = some (z.map (Value.int .u8)).length) := bR OQ.out
   have HCC := Lib.hid (fun w' => (show Calls Tryz.prog 120 #[.agg (z.map (Value.int .u8)).toArray, .int .i64 leaf, .int .i64 k, .int .i64 q, .int .i64 3] w' fun e w'' => e = .returned (.agg (hvA y)) ∧ Below w'.heap.size w' w'' from by rw [← HEE.out]; exact lG z leaf k q 3 w' OQ.out))
   have hd1 : decide ((k : Int) < 68) = true := by simp; omega
   have p1 : (0 : Int) ≤ (k : Int) := by omega
   have p2 : (k : Int) < 68 := by omega
   go_wp2_with fail
   refine wp_region_held_drew (S := fun w' => w'.rangeAt sb (so + k * 16) (z.map (Value.int .u8)) ∧ w'.cell? ⟨gd, k, none⟩ = some (.int .i64 q)) (by kernel_rfl) ⟨HSG.out, c1⟩ (fun hHeld => ?_)
   refine zw 0 rfl (v := ?_) ?_ ?_; rotate_left
   ·intro w' hSw; go_simp; try with_reducible rfl
   try simp only [Act.put, zA, zB, zC, zD, zE, zF]
   refine zw 1 rfl (v := ?_) ?_ ?_; rotate_left
   ·intro w' hSw; go_simp; try with_reducible rfl
   try simp only [Act.put, zA, zB, zC, zD, zE, zF]
   refine zw 2 rfl (v := ?_) ?_ ?_; rotate_left
   ·intro w' hSw; go_simp; try with_reducible rfl
   try simp only [Act.put, zA, zB, zC, zD, zE, zF]
   refine zw 3 rfl (v := ?_) ?_ ?_; rotate_left
   ·intro w' hSw; go_simp; try with_reducible rfl
   try simp only [Act.put, zA, zB, zC, zD, zE, zF]
   refine' zk 4 rfl (v := _) (yieldsIf_load_mid (by rfl) _ _ rfl _ _ rfl _ _ ?hS4n5 Tryz.underlying37 rfl HIZ.out) ?rest4n5
   case hS4n5 =>
    intro w' hSw
    exact hSw.1
   try simp only [Act.put, zA, zB, zC, zD, zE, zF]
   refine zw 5 rfl (v := ?_) ?_ ?_; rotate_left
   ·intro w' hSw; go_simp; try with_reducible rfl
   try simp only [Act.put, zA, zB, zC, zD, zE, zF]
   refine zw 6 rfl (v := ?_) ?_ ?_; rotate_left
   ·intro w' hSw; go_simp; try with_reducible rfl
   try simp only [Act.put, zA, zB, zC, zD, zE, zF]
   refine zw 7 rfl (v := ?_) ?_ ?_; rotate_left
   ·intro w' hSw; go_simp; try with_reducible rfl
   try simp only [Act.put, zA, zB, zC, zD, zE, zF]
   refine zw 8 rfl (v := ?_) ?_ ?_; rotate_left
   ·intro w' hSw; go_simp; try with_reducible rfl
   try simp only [Act.put, zA, zB, zC, zD, zE, zF]
   refine zw 9 rfl (v := ?_) ?_ ?_; rotate_left
   ·intro w' hSw; go_simp; try with_reducible rfl
   try simp only [Act.put, zA, zB, zC, zD, zE, zF]
   refine zw 10 rfl (v := ?_) ?_ ?_; rotate_left
   ·intro w' hSw; have hq := hSw.2; go_simp; try with_reducible rfl
   try simp only [Act.put, zA, zB, zC, zD, zE, zF]
   refine zr 11 rfl (fun K hK => ?_)
   go_simp
   with_reducible refine (HCC.out _).mono ?_
   rintro e w6 ⟨rfl, hb⟩
   have HB6 : Hid (Below wr.heap.size wr w6) := (Below.refl _ _).drew.trans hb
   clear hb
   have HX6 : Hid (w6.rangeAt sb (so + k * 16) (z.map (Value.int .u8)) ∧ w6.cell? ⟨gd, k, none⟩ = some (.int .i64 q)) := ⟨aA HSG.out HB6.out (by omega), (HB6.out.cell (p := ⟨gd, k, none⟩) HGL.out).trans c1⟩
   have hs6 : b + 2 ≤ w6.heap.size := by have := HB6.out.size; omega
   have HO6 := Lib.hid (HOW.out.below HB6.out)
   go_wp2_with fail
   refine hK.out _ _ HX6.out (fun hHeld => ?_); clear hK K
   try simp only [Act.put, zA, zB, zC, zD, zE, zF]
   refine zr 12 rfl (fun K hK => ?_)
   rw [if_pos (by rfl)]
   refine eW 65 1 [(0, .tmp 32)] rfl [(0, .agg (hvA y))] rfl _ _ (iV _ y HY.out) ?_
   generalize hw7 : World.alloc w6 _ = w7
   have hr7 : w7.rangeAt w6.heap.size 0 (y.map (Value.int .u8)) := by rw [← hw7]; intro j v hv; rw [Nat.zero_add]; exact aG (heap_alloc_new w6 _) hv
   have hb7 : Below w6.heap.size w6 w7 := by rw [← hw7]; exact aB _ _
   have HR7 := Lib.hid hr7; have HB7 := Lib.hid hb7; have HO7 := Lib.hid (HO6.out.below hb7)
   have hs7 := hb7.size
   have hs7b : b + 2 ≤ w7.heap.size := by omega
   have HD7 : Hid (DgIn w7 gd (digs d)) := (HDW.out.below HB6.out HGL.out).below HB7.out (by have := HB6.out.size; have := HGL.out; omega)
   have HX7 : Hid (w7.rangeAt sb (so + k * 16) (z.map (Value.int .u8))) := aA HX6.out.1 HB7.out (by omega)
   clear hw7 hr7 hb7 hs7
   refine hK.out _ _ ⟨HX7.out, (HD7.out.cell (by rw [bT HD.out.1]; exact hlt)).trans HQK.out⟩ (fun hHeld => ?_); clear hK K
   try simp only [Act.put, zA, zB, zC, zD, zE, zF]
   refine zr 13 rfl (fun K hK => ?_)
   rw [if_pos (by rfl)]
   refine eX (.tmp 21) (.tmp 33) rfl (b + 2) _ _ k HLK.out rfl HO7.out w6.heap.size y rfl HR7.out HY.out (by omega) hs7b ?_
   intro sp8 cap8 w8 HO8 HB8 HG8
   have HD8 : Hid (DgIn w8 gd (digs d)) := HD7.out.grown HO7.out HG8.out
   have HX8 : Hid (w8.rangeAt sb (so + k * 16) (z.map (Value.int .u8))) := aA HX7.out HB8.out (by omega)
   refine hK.out _ _ ⟨HX8.out, (HD8.out.cell (by rw [bT HD.out.1]; exact hlt)).trans HQK.out⟩ (fun hHeld => ?_); clear hK K
   try simp only [Act.put, zA, zB, zC, zD, zE, zF]
   refine zw 14 rfl (v := ?_) ?_ ?_; rotate_left
   ·intro w' hSw; go_simp; try with_reducible rfl
   try simp only [Act.put, zA, zB, zC, zD, zE, zF]
   refine zd ?_ _
   go_wp2_with fail
   go_roundw
   case rel => exact ⟨k + 1, by omega, by go_num, by rw [HSN.out]; exact HO8, HD8.out, HBR.out.trans ((HB6.out.mono (by omega)).trans ((HB7.out.mono (by omega)).trans HB8.out))⟩
   case measure => simp [intOf]; omega
  ·obtain rfl : k = 68 := by omega
   have hd1 : decide (((68 : Nat) : Int) < 68) = false := by simp
   obtain ⟨sp', cap', rfl⟩ := aX HOW.out.1
   have CM : Hid (((List.range 68).map (rQ leaf d l)).length = 68) := by show _ = _; simp
   have HHV : Hid (HvsIn wr wr.heap.size sp' 68 cap' ((List.range 68).map (rQ leaf d l))) := by
    have h := HOW.out
    rw [CM.out] at h
    exact h.hvs CM.out
   have HZR : Hid (wr.heap[b + 1]? = some (.cells (Array.replicate 16 (Value.int .u8 0)) 37 (0, 0))) := (HBR.out.block _ (by omega)).trans HZ2.out
   have HBW : Hid (Below b w wr) := HB2.out.trans (HBR.out.mono (by omega))
   rw [CM.out]
   go_wp2_with fail
   refine (lZ leaf sp' 68 cap' _ wr HHV.out (by omega)).mono ?_
   rintro e w6 ⟨rfl, hb6⟩
   have HZ6 : Hid (w6.heap[b + 1]? = some (.cells (Array.replicate 16 (Value.int .u8 0)) 37 (0, 0))) := (hb6.block _ (by omega)).trans HZR.out
   have HB6 : Hid (Below b w w6) := HBW.out.trans (hb6.mono (by omega))
   have HPE : Hid (BP leaf ((List.range 68).map (rQ leaf d l)) = vJ leaf d l) := rfl
   rw [HPE.out]
   clear hb6
   go_wp2_with (refine wpList_store_row rfl 37 _ _ rfl (b + 1) _ rfl rfl 37 _ HZ6.out (aI (eS _ _ _)) (cW (eS _ _ _)) (cQ _) ?_)
   exact bodyPost_ret (eB (P := Tryz.prog) rfl _ _ (b + 1) 37 _ (0, 0) _ rfl (setRow_heap _ _ _ _ _ _ HZ6.out) Tryz.underlying37 rfl (aI (eS _ _ _))) rfl ⟨rfl, by rw [HBZ.out]; exact below_setRow HB6.out (by omega) _⟩
end Go.Proofs.YtjeiiabpdoelpaaGreatDoor
