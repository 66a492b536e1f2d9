/-
  One-time signatures: the walks of Recover, the program's and the reference's (condition: the table of constants reads as it is laid).
-/
import Derived.Test.YtcligodahogpkaaGreatDoorZip
import Derived.Test.YtcligodahogpkaaGreatDoorOneR
set_option maxRecDepth 100000
set_option maxHeartbeats 8000000
namespace Go.Proofs.YtcligodahogpkaaGreatDoor
open Go.RowKit Go.Proofs.YtcligodahogpkaaGreatDoor.One
theorem bT {P : Program} {fn : Func} {p u : Tmp} {ty : TypeId} (h : fn.results = #[.cell p ty, .tmp u]) (tmps : Array Value) (w : World) (g : Nat) (t : TypeId) (cs : Array Value) (fr : Nat × Nat) (d : TypeDesc)
 (hp : tmps.getD p undef = .pointer (some ⟨g, 0, none⟩)) (hg : w.heap[g]? = some (.cells cs t fr))
 (hu : P.underlying ty = some d) (hd : (match d with | .struct _ | .array _ _ => true | _ => false) = true) (hi : (P.info? ty).map (·.size) = some cs.size) :
 (results fn tmps).run P w = .ok (.tuple #[.agg cs, tmps.getD u undef]) w := by
 rw [results_cell_tmp h, hp]
 simp [asAddr, run_loadVar_row w g t ty cs fr d hg hu hd hi]
def bK : List Int := List.replicate 16 0
theorem aD : H16 bK := ⟨rfl, fun x hx => by rw [List.eq_of_mem_replicate hx]; omega⟩
structure DTwo (w : World) (d : List Int) (w0 : World) : Prop where
 d : w0.heap[w.heap.size]? = some (.cells (dgA d) 43 (0, 0))
 z : w0.heap[w.heap.size + 1]? = some (.cells (Array.replicate 16 (Value.int .u8 0)) 54 (0, 0))
 b : Below w.heap.size w w0
 s : w0.heap.size = w.heap.size + 2
theorem DTwo.new (w : World) (d : List Int) : DTwo w d ((w.alloc (.cells (dgA d) 43)).alloc (.cells (Array.replicate 16 (Value.int .u8 0)) 54)) :=
 ⟨(heap_alloc_old _ _ (by simp)).trans (heap_alloc_new w _), by have h := heap_alloc_new (w.alloc (.cells (dgA d) 43)) (.cells (Array.replicate 16 (Value.int .u8 0)) 54); rw [World.size_alloc] at h; exact h, ((Below.refl _ _).alloc (Nat.le_refl _) _).alloc (by simp) _, by simp⟩
structure DThree (w : World) (d : List Int) (w0 : World) : Prop where
 d : w0.heap[w.heap.size]? = some (.cells (dgA d) 43 (0, 0))
 z : w0.heap[w.heap.size + 1]? = some (.cells (Array.replicate 16 (Value.int .u8 0)) 54 (0, 0))
 e : w0.there (w.heap.size + 1 + 1) 0 1088
 b : Below w.heap.size w w0
 s : w0.heap.size = w.heap.size + 3
theorem DThree.new (w : World) (d : List Int) : DThree w d (((w.alloc (.cells (dgA d) 43)).alloc (.cells (Array.replicate 16 (Value.int .u8 0)) 54)).alloc (.cells yS 163)) := by
 have h := DTwo.new w d
 generalize (w.alloc (.cells (dgA d) 43)).alloc (.cells (Array.replicate 16 (Value.int .u8 0)) 54) = w1 at *
 have h2 := xB w1 163
 have b2 := aB w1 (.cells yS 163)
 have s2 := aK w1 (.cells yS 163)
 generalize w1.alloc (.cells yS 163) = w2 at *
 have hs := h.s
 rw [hs] at h2
 exact ⟨(b2.block _ (by omega)).trans h.d, (b2.block _ (by omega)).trans h.z, h2, h.b.trans (b2.mono (by omega)), by omega⟩
theorem rL {leaf : Int} {d : List Int} {w : World} {B : Nat} {sp : Option Addr} {cap : Nat} {sig : List (List Int)} (h : HvsIn w B sp 68 cap sig) (i : Nat) (hi : i < 68) : H16 (FM leaf d sig i) := mS (h.at16 hi) _ _ _ _
theorem vS (leaf : Int) (d : List Int) (sp : Option Addr) (cap : Nat) (l : List (List Int)) (w : World) (hd : D32 d) (hl : HvsIn w w.heap.size sp 68 cap l) (hk : KayIn w) (hk0 : 1 < w.heap.size) :
 Calls Tryz.prog 91 #[.int .i64 leaf, .agg (dgA d), .slice sp 68 cap] w fun e w' => e = .returned (.tuple #[.agg (hvA (FN leaf d l)), .bool true]) ∧ Below w.heap.size w w' := by
 have HK := zh hk; clear hk
 have HD := zh hd; have HLV := zh hl
 obtain ⟨sb, so, hpl⟩ := hl.place
 obtain rfl := hpl (by decide)
 obtain ⟨sb', so', he, hsb, hsc, _⟩ := hl.cells (by decide)
 injection he with he; injection he with he1 he2; subst he1 he2
 clear hd hl hpl
 have HT := zh (DThree.new w d)
 have hz := IK
 go_enter Tryz.func91, Tryz.ntmps91
 go_wp2_with (generalize hw0 : World.alloc (World.alloc (World.alloc w _) _) _ = w0; have HT0 : Hid (DThree w d w0) := (by rw [← hw0]; exact HT.out); have HDR : Hid (w0.heap[w.heap.size]? = some (.cells (dgA d) 43 (0, 0))) := HT0.out.d; clear hw0 HT; refine wpList_load_row rfl 43 _ rfl w.heap.size rfl 43 _ (0, 0) _ HDR.out Tryz.underlying43 rfl (rS HD.out) ?_)
 clear hz
 refine (qW d HD.out w0).mono ?_
 rintro e w2 ⟨spd, capd, rfl, hdg, hb2⟩
 obtain ⟨gd, rfl, hgd, hdgi, hcap⟩ := hdg.dg (dE HD.out.1) (by decide)
 have hs0 := HT0.out.s
 have HLW : Hid (HvsIn w2 w.heap.size (some ⟨sb, so, none⟩) 68 cap l) := HLV.out.below (HT0.out.b.trans (hb2.mono (by omega))) (Nat.le_refl _)
 generalize hb : w.heap.size = b at *
 have HBZ := zh hb; clear hb hdg
 have HZ2 : Hid (w2.heap[b + 1]? = some (.cells (Array.replicate 16 (Value.int .u8 0)) 54 (0, 0))) := by
  have h := HT0.out.z; rw [HBZ.out] at h; exact (hb2.block _ (by omega)).trans h
 have HB2 : Hid (Below b w w2) := by
  have h := HT0.out.b; rw [HBZ.out] at h; exact h.trans (hb2.mono (by omega))
 have HDG := zh hdgi
 have hz2 : b + 2 ≤ w2.heap.size := by have := hb2.size; omega
 have HE2 : Hid (w2.there (b + 1 + 1) 0 1088) := by have h := HT0.out.e; rw [HBZ.out] at h; exact jM h hb2 (by omega)
 have hgd2 : gd ≠ b + 1 + 1 := by omega
 have hgz : b + 1 + 1 < w2.heap.size := by have := hb2.size; omega
 have HK2 : Hid (KayIn w2) := HK.out.below HB2.out hk0
 clear HT0 hb2 hdgi hs0 HDR HK
 go_wp2_with fail
 go_loopw [18] (fun i wr => ∃ k : Nat, k ≤ 68 ∧ i = .int .i64 k ∧ Hid (EndsIn wr (b + 1 + 1) k (FM leaf d l)) ∧ Hid (DgIn wr gd (digs d)) ∧ Hid (Below (b + 1 + 1) w2 wr)) (fun i _ => 68 - (intOf i).toNat)
 case atStart => exact ⟨0, by omega, rfl, ⟨fun i hi => absurd hi (by omega), HE2.out⟩, HDG.out, Below.refl _ _⟩
 case round =>
  clear HE2 HDG
  obtain ⟨k, hk, rfl, HER, HDW, HBR⟩ := hrel
  have hszr : b + 2 ≤ wr.heap.size := by have := HBR.out.size; omega
  have hgzr : b + 1 + 1 < wr.heap.size := by have := HBR.out.size; omega
  have HKR : Hid (KayIn wr) := HK2.out.below HBR.out (by omega)
  have hkr : 1 < wr.heap.size := by omega
  by_cases hlt : k < 68
  ·have c1 := HDW.out.cell (j := k) (by rw [dE HD.out.1]; exact hlt)
   have HGL := zh HDW.out.lt
   have HSG : Hid (wr.rangeAt sb (so + k * 16) ((l.getD k []).map (Value.int .u8))) := by
    obtain ⟨sb', so', he, _, _, hr⟩ := (HLW.out.below HBR.out (by omega)).cells (by decide)
    injection he with he; injection he with he1 he2; subst he1 he2
    exact hr k hlt
   have H16E := zh (HLW.out.at16 hlt)
   have HY := zh (rL (leaf := leaf) (d := d) HLW.out k hlt)
   have HEE : Hid (dJ (l.getD k []) leaf k ((digs d).getD k 0) 3 = FM leaf d l k) := rfl
   generalize hy : FM leaf d l k = y at *
   have HYY := zh hy; clear hy
   generalize l.getD k [] = z at *
   generalize (digs d).getD k 0 = q at *
   have HIZ : Hid ((Tryz.prog.info? 54).map (·.size) = some (z.map (Value.int .u8)).length) := cQ H16E.out
   have HCC := zh (show Calls Tryz.prog 130 #[.agg (z.map (Value.int .u8)).toArray, .int .i64 leaf, .int .i64 k, .int .i64 q, .int .i64 3] wr fun e w'' => e = .returned (.agg (hvA y)) ∧ Below wr.heap.size wr w'' from by rw [← HEE.out]; exact pG z leaf k q 3 wr H16E.out HKR.out hkr)
   have hd1 : decide ((k : Int) < 68) = true := by simp; omega
   have p1 : (0 : Int) ≤ (k : Int) := by omega
   have p2 : (k : Int) < 68 := by omega
   go_wp2_with (refine wpList_load_mid rfl 54 _ rfl sb (so + k * 16) rfl _ _ HSG.out Tryz.underlying54 rfl HIZ.out ?_)
   refine HCC.out.mono ?_
   rintro e w6 ⟨rfl, hb6⟩
   have HB6 := zh hb6; clear hb6
   have HE6 : Hid (EndsIn w6 (b + 1 + 1) k (FM leaf d l)) := HER.out.below HB6.out hgzr
   have HSE : Hid ((hvA y).size = 16) := by show _ = _; simp [hvA, HY.out.1]
   go_wp2_with (refine wpList_store_mid rfl 54 _ _ rfl (b + 1 + 1) (k * 16) (hvA y) rfl rfl (by rw [HSE.out]; exact HE6.out.at_ hlt) (aN HY.out) (dG _) ?_; generalize hw7 : World.setCells w6 _ _ _ = w7; have HE7 : Hid (EndsIn w7 (b + 1 + 1) (k + 1) (FM leaf d l)) := (by rw [← hw7, ← HYY.out]; exact HE6.out.put (fun i hi => rL HLW.out i hi) hlt); have HD7 : Hid (DgIn w7 gd (digs d)) := (by rw [← hw7]; exact (HDW.out.below HB6.out HGL.out).put hgd2); have HB7 : Hid (Below (b + 1 + 1) w2 w7) := (by rw [← hw7]; exact dY (Nat.le_refl _) _ _ _ (HBR.out.trans (HB6.out.mono (by omega)))); clear hw7)
   go_roundw
   case rel => exact ⟨k + 1, by omega, by go_num, HE7, HD7, HB7⟩
   case measure => simp [intOf]; omega
  ·obtain rfl : k = 68 := by omega
   have hd1 : decide (((68 : Nat) : Int) < 68) = false := by simp
   have HHV := zh (HER.out.hvs (fun i hi => rL HLW.out i hi) hgzr)
   have HZR : Hid (wr.heap[b + 1]? = some (.cells (Array.replicate 16 (Value.int .u8 0)) 54 (0, 0))) := (HBR.out.block _ (by omega)).trans HZ2.out
   have HBW : Hid (Below b w wr) := HB2.out.trans (HBR.out.mono (by omega))
   go_wp2_with fail
   refine (pE leaf _ 68 68 _ wr HHV.out (by omega) HKR.out hkr).mono ?_
   rintro e w6 ⟨rfl, hb6⟩
   have HZ6 : Hid (w6.heap[b + 1]? = some (.cells (Array.replicate 16 (Value.int .u8 0)) 54 (0, 0))) := (hb6.block _ (by omega)).trans HZR.out
   have HB6 : Hid (Below b w w6) := HBW.out.trans (hb6.mono (by omega))
   have HPE : Hid (EQ leaf ((List.range 68).map (FM leaf d l)) = FN leaf d l) := rfl
   rw [HPE.out]
   clear hb6
   go_wp2_with (refine wpList_store_row rfl 54 _ _ rfl (b + 1) _ rfl rfl 54 _ HZ6.out (aN (lJ _ _ _)) (dH (lJ _ _ _)) (dG _) ?_)
   exact bodyPost_ret (bT (P := Tryz.prog) rfl _ _ (b + 1) 54 _ (0, 0) _ rfl (setRow_heap _ _ _ _ _ _ HZ6.out) Tryz.underlying54 rfl (aN (lJ _ _ _))) rfl ⟨rfl, by rw [HBZ.out]; exact below_setRow HB6.out (by omega) _⟩
end Go.Proofs.YtcligodahogpkaaGreatDoor
