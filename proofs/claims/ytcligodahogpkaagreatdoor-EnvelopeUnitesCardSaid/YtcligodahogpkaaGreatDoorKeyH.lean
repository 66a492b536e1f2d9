/-
  Keys of many one-time keys: the walk of Sign where it signs (condition: the table of constants reads as it is laid).
-/
import Derived.Test.YtcligodahogpkaaGreatDoorZip
import Derived.Test.YtcligodahogpkaaGreatDoorGq
set_option maxRecDepth 100000
set_option maxHeartbeats 8000000
namespace Go.Proofs.YtcligodahogpkaaGreatDoor
open Go.RowKit Go.Proofs.YtcligodahogpkaaGreatDoor.One
theorem aV {w : World} {g : Nat} {L : List Value} {t : TypeId} {fr : Nat × Nat} (hg : w.heap[g]? = some (.cells L.toArray t fr)) : w.rangeAt g 0 L := fun j v hv => by rw [Nat.zero_add]; exact aH hg hv
theorem fY {x : List Int} {h n : Int} (hx : H16 x) : (Tryz.prog.info? 64).map (·.size) = some (sgL x h n).length := by rw [show (sgL x h n).length = 18 by simp [sgL, hx.1]]; exact JB
theorem nZ (l : Int) (c p : Value) : (Tryz.prog.info? 60).map (·.size) = some (siL l c p).length := CR
theorem JY (x : List Int) (h leaf : Nat) (d : List Int) (w : World) (hs : H16 x) (hd : D32 d) (hh : h ≤ 6) (hl : leaf < 2 ^ h) (hk : KayIn w) (hk0 : 1 < w.heap.size) :
 Calls Tryz.prog 68 #[.agg (sgA x h leaf), .agg (dgA d)] w fun e w' => ∃ spc capc gp, e = .returned (.tuple #[.agg (sgA x h (leaf + 1)), .agg (siA leaf (.slice spc 68 capc) (.slice (some ⟨gp, 0, none⟩) h h)), .int .i64 0]) ∧
  OwnHv w' w.heap.size (.slice spc 68 capc) (fF x leaf d) ∧ OwnHv w' w.heap.size (.slice (some ⟨gp, 0, none⟩) h h) (dM x h leaf) ∧ Below w.heap.size w w' := by
 have HS := zh hs; have dR := zh hs; have HD := zh hd; have HK := zh hk
 have h64 : leaf ≤ 64 := by have : 2 ^ h ≤ 2 ^ 6 := Nat.pow_le_pow_right (by omega) hh; omega
 have HL := zh hl
 have HV : Hid (eK (h : Int) = true) := by show _ = _; unfold eK; simp; omega
 have hn1 : decide ((leaf : Int) ≥ lvN h) = false := by simp; unfold lvN; omega
 have HIX := zh (cQ hs); have HID := zh (jP hd)
 clear hs hd hk hl
 have HT := zh (SnBox.new w x h leaf d)
 go_enter Tryz.func68, Tryz.ntmps68
 generalize (sgA x (h : Int) (leaf : Int)) = SA at *
 go_upto_region 1 with (fail)
 generalize hw0 : World.alloc (World.alloc (World.alloc (World.alloc w _) _) _) _ = w0
 have HT0 : Hid (SnBox w x h leaf d w0) := by rw [← hw0]; exact HT.out
 clear hw0 HT
 have hs0 : w.heap.size + 4 ≤ w0.heap.size := Nat.le_of_eq HT0.out.k.symm
 have c16 := AL HS.out HT0.out.s
 have c17 := tA HS.out HT0.out.s
 go_wp2_with fail
 refine (dU h w0).mono ?_
 rintro e w' ⟨rfl, rfl⟩
 rw [HV.out]
 have hn0 : decide ((leaf : Int) < 0) = false := by simp
 go_wp2_with fail
 have HLV := zh (fun w' => eO h w' hh)
 refine wp_region_held_drew (S := fun w' => w'.cell? ⟨w.heap.size, 16, none⟩ = some (.int .i64 (h : Int)) ∧ w'.cell? ⟨w.heap.size, 17, none⟩ = some (.int .i64 (leaf : Int))) (by kernel_rfl) ⟨c16, c17⟩ (fun hHeld => ?_)
 refine zv 0 rfl ?_
 refine zx 1 rfl (v := ?_) ?_ ?_; rotate_left
 ·intro w' hSw; have c1 := hSw.2; go_simp; try with_reducible rfl
 refine zv 2 rfl ?_
 refine zx 3 rfl (v := ?_) ?_ ?_; rotate_left
 ·intro w' hSw; have c1 := hSw.1; go_simp; try with_reducible rfl
 refine zr 4 rfl (fun K hK => ?_)
 go_simp
 with_reducible refine (HLV.out _).mono ?_
 rintro e w' ⟨rfl, rfl⟩
 go_wp2_with fail
 refine hK.out _ _ ⟨c16, c17⟩ fun _ => ?_; clear hK K
 try simp only [Act.put, zA, zB, zC, zD, zE, zF]
 refine zv 5 rfl ?_
 refine zv 6 rfl ?_
 refine zd ?_ _
 clear hn0 hn1 c16 c17
 go_wp2_with fail
 generalize hw1 : World.drew w0 = w1
 have uT : Hid (w1.heap[w.heap.size]? = some (.cells (sgA x h leaf) 64 (0, 0))) := by rw [← hw1]; exact HT0.out.s
 have HDw1 : Hid (w1.heap[w.heap.size + 1]? = some (.cells (dgA d) 43 (0, 0))) := by rw [← hw1]; exact HT0.out.d
 have HYw1 : Hid (w1.heap[w.heap.size + 1 + 1]? = some (.cells (sgA bK 0 0) 64 (0, 0))) := by rw [← hw1]; exact HT0.out.y
 have HZw1 : Hid (w1.heap[w.heap.size + 1 + 1 + 1]? = some (.cells (siA 0 aM aM) 60 (0, 0))) := by rw [← hw1]; exact HT0.out.z
 have HBw1 : Hid (Below w.heap.size w w1) := by rw [← hw1]; exact HT0.out.b.drew
 have hsw1 : w.heap.size + 4 ≤ w1.heap.size := by rw [← hw1]; exact hs0
 clear hw1 HT0 hs0
 have HC7 := zh (fun w' (hb : Below w.heap.size w w') (hz : 1 < w'.heap.size) => (show Calls Tryz.prog 100 #[.agg (x.map (Value.int .u8)).toArray, .int .i64 (leaf : Int), .agg (d.map (Value.int .u8)).toArray] w' fun e w'' => ∃ sp cap, e = .returned (.slice sp 68 cap) ∧ OwnHv w'' w'.heap.size (.slice sp 68 cap) (fF x leaf d) ∧ Below w'.heap.size w' w'' from FD x leaf d w' dR.out HD.out (HK.out.below hb hk0) hz))
 have HC9 := zh (fun w' (hb : Below w.heap.size w w') (hz : 1 < w'.heap.size) => (show Calls Tryz.prog 101 #[.agg (sgL x h leaf).toArray] w' fun e w'' => ∃ g, e = .returned (.slice (some ⟨g, 0, none⟩) h h) ∧ OwnHv w'' w'.heap.size (.slice (some ⟨g, 0, none⟩) h h) (dM x h leaf) ∧ Below w'.heap.size w' w'' from FP x h leaf w' dR.out hh HL.out (HK.out.below hb hk0) hz))
 refine wp_region_held_drew (S := fun w' => w'.heap[w.heap.size]? = some (.cells (sgA x h leaf) 64 (0, 0)) ∧ w'.heap[w.heap.size + 1]? = some (.cells (dgA d) 43 (0, 0))) (by kernel_rfl) ⟨uT.out, HDw1.out⟩ (fun hHeld => ?_)
 refine zv 0 rfl ?_
 refine zx 1 rfl (v := ?_) ?_ ?_; rotate_left
 ·intro w' hSw; have c1 := tA dR.out hSw.1; go_simp; try with_reducible rfl
 refine zv 2 rfl ?_
 refine' zk 3 rfl (v := _) (yieldsIf_load_mid (by rfl) _ _ rfl _ _ rfl _ _ ?hS3n22 Tryz.underlying54 rfl HIX.out) ?rest3n22
 case hS3n22 =>
  intro w' hSw
  exact MZ hSw.1
 try simp only [Act.put, zA, zB, zC, zD, zE, zF]
 refine zv 4 rfl ?_
 refine zx 5 rfl (v := ?_) ?_ ?_; rotate_left
 ·intro w' hSw; have c1 := tA dR.out hSw.1; go_simp; try with_reducible rfl
 refine' zk 6 rfl (v := _) (yieldsIf_load_mid (by rfl) _ _ rfl _ _ rfl _ _ ?hS6n25 Tryz.underlying43 rfl HID.out) ?rest6n25
 case hS6n25 =>
  intro w' hSw
  exact aV hSw.2
 try simp only [Act.put, zA, zB, zC, zD, zE, zF]
 refine' zk 8 rfl (v := _) (yieldsIf_load_mid (by rfl) _ _ rfl _ _ rfl _ _ ?hS8n26 Tryz.underlying64 rfl (fY dR.out)) ?rest8n26
 case hS8n26 =>
  intro w' hSw
  exact aV hSw.1
 try simp only [Act.put, zA, zB, zC, zD, zE, zF]
 refine zs 7 11 rfl (fun K hK => ?_) rfl (fun K hK => ?_)
 ·go_simp
  with_reducible refine (HC7.out _ HBw1.out.drew (by have := HBw1.out.drew.size; omega)).mono ?_
  rintro e w2 ⟨spc, capc, rfl, ho, hb⟩
  have AI : Hid (Below w1.heap.size w1 w2) := (Below.refl _ _).drew.trans hb
  have HCw2 : Hid (OwnHv w2 w.heap.size (.slice spc 68 capc) (fF x leaf d)) := ho.base (by show w.heap.size ≤ w1.heap.size; omega)
  clear ho hb
  have AG : Hid (w2.heap[w.heap.size]? = some (.cells (sgA x h leaf) 64 (0, 0))) := (AI.out.block _ (by omega)).trans uT.out
  have NF : Hid (w2.heap[w.heap.size + 1]? = some (.cells (dgA d) 43 (0, 0))) := (AI.out.block _ (by omega)).trans HDw1.out
  have HYw2 : Hid (w2.heap[w.heap.size + 1 + 1]? = some (.cells (sgA bK 0 0) 64 (0, 0))) := (AI.out.block _ (by omega)).trans HYw1.out
  have HZw2 : Hid (w2.heap[w.heap.size + 1 + 1 + 1]? = some (.cells (siA 0 aM aM) 60 (0, 0))) := (AI.out.block _ (by omega)).trans HZw1.out
  have NG : Hid (Below w.heap.size w w2) := HBw1.out.trans (AI.out.mono (by omega))
  have hsw2 : w.heap.size + 4 ≤ w2.heap.size := by have := AI.out.size; omega
  go_wp2_with fail
  refine hK.out _ _ ⟨AG.out, NF.out⟩ fun _ => ?_; clear hK K
  try simp only [Act.put, zA, zB, zC, zD, zE, zF]
  refine zs 9 11 rfl (fun K hK => ?_) rfl (fun K hK => ?_)
  ·go_simp
   with_reducible refine (HC9.out _ NG.out (by omega)).mono ?_
   rintro e w3 ⟨gp, rfl, ho, hb⟩
   have oF : Hid (Below w2.heap.size w2 w3) := hb
   have HPw3 : Hid (OwnHv w3 w.heap.size (.slice (some ⟨gp, 0, none⟩) h h) (dM x h leaf)) := ho.base (by omega)
   clear ho hb
   have JM : Hid (w3.heap[w.heap.size]? = some (.cells (sgA x h leaf) 64 (0, 0))) := (oF.out.block _ (by omega)).trans AG.out
   have JQ : Hid (w3.heap[w.heap.size + 1]? = some (.cells (dgA d) 43 (0, 0))) := (oF.out.block _ (by omega)).trans NF.out
   have PC : Hid (w3.heap[w.heap.size + 1 + 1]? = some (.cells (sgA bK 0 0) 64 (0, 0))) := (oF.out.block _ (by omega)).trans HYw2.out
   have PA : Hid (w3.heap[w.heap.size + 1 + 1 + 1]? = some (.cells (siA 0 aM aM) 60 (0, 0))) := (oF.out.block _ (by omega)).trans HZw2.out
   have QF : Hid (OwnHv w3 w.heap.size (.slice spc 68 capc) (fF x leaf d)) := HCw2.out.below oF.out
   have MU : Hid (Below w.heap.size w w3) := NG.out.trans (oF.out.mono (by omega))
   have hsw3 : w.heap.size + 4 ≤ w3.heap.size := by have := oF.out.size; omega
   go_wp2_with fail
   refine hK.out _ _ ⟨JM.out, JQ.out⟩ fun _ => ?_; clear hK K
   try simp only [Act.put, zA, zB, zC, zD, zE, zF]
   refine zv 10 rfl ?_
   refine zr 11 rfl (fun K hK => ?_)
   have HO := zh (heap_alloc_new w3 (.cells (siA 0 aM aM) 60))
   have HQ : Hid (Below w3.heap.size w3 ((w3.alloc (.cells (siA 0 aM aM) 60)))) := (aB w3 _)
   have HN := zh (aK w3 (.cells (siA 0 aM aM) 60))
   go_simp
   generalize hw : World.alloc w3 _ = w4
   obtain ⟨gs, hgs⟩ : ∃ gs, gs = w3.heap.size := ⟨_, rfl⟩
   rw [← hgs]
   have yR : Hid (w4.heap[gs]? = some (.cells (siA 0 aM aM) 60 (0, 0))) := by rw [hgs, ← hw]; exact HO.out
   have mA : Hid (Below w3.heap.size w3 w4) := by rw [← hw]; exact HQ.out
   have hgw4 : gs < w4.heap.size := by rw [hgs, ← hw]; exact Nat.lt_of_lt_of_eq (Nat.lt_succ_self _) HN.out.symm
   have hgb : w.heap.size + 4 ≤ gs := by omega
   clear hw HO HQ HN hgs
   have JL : Hid (w4.heap[w.heap.size]? = some (.cells (sgA x h leaf) 64 (0, 0))) := (mA.out.block _ (by omega)).trans JM.out
   have JP : Hid (w4.heap[w.heap.size + 1]? = some (.cells (dgA d) 43 (0, 0))) := (mA.out.block _ (by omega)).trans JQ.out
   have PB : Hid (w4.heap[w.heap.size + 1 + 1]? = some (.cells (sgA bK 0 0) 64 (0, 0))) := (mA.out.block _ (by omega)).trans PC.out
   have OZ : Hid (w4.heap[w.heap.size + 1 + 1 + 1]? = some (.cells (siA 0 aM aM) 60 (0, 0))) := (mA.out.block _ (by omega)).trans PA.out
   have QE : Hid (OwnHv w4 w.heap.size (.slice spc 68 capc) (fF x leaf d)) := QF.out.below mA.out
   have PO : Hid (OwnHv w4 w.heap.size (.slice (some ⟨gp, 0, none⟩) h h) (dM x h leaf)) := HPw3.out.below mA.out
   have QH : Hid (Below w.heap.size w w4) := MU.out.trans (mA.out.mono (by omega))
   have hsw4 : w.heap.size + 4 ≤ w4.heap.size := by have := mA.out.size; omega
   refine hK.out _ _ ⟨JL.out, JP.out⟩ fun _ => ?_; clear hK K
   try simp only [Act.put, zA, zB, zC, zD, zE, zF]
   refine zr 12 rfl (fun K hK => ?_)
   rw [if_pos (by rfl)]
   refine wp_store_row 60 _ _ rfl gs (siA leaf (.slice spc 68 capc) (.slice (some ⟨gp, 0, none⟩) h h)) rfl rfl 60 _ yR.out (aP _ _ _) rfl (bV _ _ _ _ _ _ _) ?_
   generalize hw : World.setRow w4 _ _ = wy
   have HGy : Hid (wy.heap[gs]? = some (.cells (siA leaf (.slice spc 68 capc) (.slice (some ⟨gp, 0, none⟩) h h)) 60 (0, 0))) := by rw [← hw]; exact setRow_heap _ _ _ _ _ _ yR.out
   have HSy : Hid (wy.heap[w.heap.size]? = some (.cells (sgA x h leaf) 64 (0, 0))) := by rw [← hw]; exact (setRow_other _ _ _ _ (by omega)).trans JL.out
   have HDy : Hid (wy.heap[w.heap.size + 1]? = some (.cells (dgA d) 43 (0, 0))) := by rw [← hw]; exact (setRow_other _ _ _ _ (by omega)).trans JP.out
   have HYy : Hid (wy.heap[w.heap.size + 1 + 1]? = some (.cells (sgA bK 0 0) 64 (0, 0))) := by rw [← hw]; exact (setRow_other _ _ _ _ (by omega)).trans PB.out
   have HZy : Hid (wy.heap[w.heap.size + 1 + 1 + 1]? = some (.cells (siA 0 aM aM) 60 (0, 0))) := by rw [← hw]; exact (setRow_other _ _ _ _ (by omega)).trans OZ.out
   have HCy : Hid (OwnHv wy w.heap.size (.slice spc 68 capc) (fF x leaf d)) := by rw [← hw]; exact QE.out.setRow yR.out gW _
   have HPy : Hid (OwnHv wy w.heap.size (.slice (some ⟨gp, 0, none⟩) h h) (dM x h leaf)) := by rw [← hw]; exact PO.out.setRow yR.out gW _
   have HBy : Hid (Below w.heap.size w wy) := by rw [← hw]; exact below_setRow QH.out (by omega) _
   clear hw
   refine hK.out _ _ ⟨HSy.out, HDy.out⟩ fun _ => ?_; clear hK K
   try simp only [Act.put, zA, zB, zC, zD, zE, zF]
   refine zd ?_ _
   have c17 := tA dR.out HSy.out
   have f17 := frozen_of_row _ _ 17 _ _ HSy.out
   go_wp2_with fail
   clear c17 f17
   generalize hw : World.setCell wy _ _ = wv
   have HSv : Hid (wv.heap[w.heap.size]? = some (.cells (sgA x h (leaf + 1)) 64 (0, 0))) := by show _ = _; rw [← hw, heap_setCell_same _ _ _ _ _ _ HSy.out, rI dR.out]
   have HGv : Hid (wv.heap[gs]? = some (.cells (siA leaf (.slice spc 68 capc) (.slice (some ⟨gp, 0, none⟩) h h)) 60 (0, 0))) := by rw [← hw]; exact (heap_setCell_other _ _ _ _ (by show gs ≠ w.heap.size; omega)).trans HGy.out
   have HY : Hid (wv.heap[w.heap.size + 1 + 1]? = some (.cells (sgA bK 0 0) 64 (0, 0))) := by rw [← hw]; exact (heap_setCell_other _ _ _ _ (by show w.heap.size + 1 + 1 ≠ w.heap.size; omega)).trans HYy.out
   have HZ : Hid (wv.heap[w.heap.size + 1 + 1 + 1]? = some (.cells (siA 0 aM aM) 60 (0, 0))) := by rw [← hw]; exact (heap_setCell_other _ _ _ _ (by show w.heap.size + 1 + 1 + 1 ≠ w.heap.size; omega)).trans HZy.out
   have HCv : Hid (OwnHv wv w.heap.size (.slice spc 68 capc) (fF x leaf d)) := by rw [← hw]; exact HCy.out.setCell HSy.out kI _ _
   have HPv : Hid (OwnHv wv w.heap.size (.slice (some ⟨gp, 0, none⟩) h h) (dM x h leaf)) := by rw [← hw]; exact HPy.out.setCell HSy.out kI _ _
   have HBv : Hid (Below w.heap.size w wv) := by rw [← hw]; exact HBy.out.setCell (by show w.heap.size ≤ w.heap.size; omega) _
   clear hw
   refine wp_region_held_drew (S := fun w' => w'.heap[w.heap.size]? = some (.cells (sgA x h (leaf + 1)) 64 (0, 0)) ∧ w'.heap[gs]? = some (.cells (siA leaf (.slice spc 68 capc) (.slice (some ⟨gp, 0, none⟩) h h)) 60 (0, 0))) (by kernel_rfl) ⟨HSv.out, HGv.out⟩ (fun hHeld => ?_)
   refine' zk 0 rfl (v := _) (yieldsIf_load_mid (by rfl) _ _ rfl _ _ rfl _ _ ?hS0n8 Tryz.underlying64 rfl (fY dR.out)) ?rest0n8
   case hS0n8 =>
    intro w' hSw
    exact aV hSw.1
   try simp only [Act.put, zA, zB, zC, zD, zE, zF]
   refine' zk 1 rfl (v := _) (yieldsIf_load_mid (by rfl) _ _ rfl _ _ rfl _ _ ?hS1n9 Tryz.underlying60 rfl (nZ leaf (.slice spc 68 capc) (.slice (some ⟨gp, 0, none⟩) h h))) ?rest1n9
   case hS1n9 =>
    intro w' hSw
    exact aV (L := siL leaf (.slice spc 68 capc) (.slice (some ⟨gp, 0, none⟩) h h)) hSw.2
   try simp only [Act.put, zA, zB, zC, zD, zE, zF]
   refine zr 2 rfl (fun K hK => ?_)
   rw [if_pos (by rfl)]
   refine wp_store_row 64 _ _ rfl (w.heap.size + 1 + 1) (sgA x h (leaf + 1)) rfl rfl 64 _ HY.out (aJ dR.out) (by rw [aC aD, aC dR.out]) (bA _ _ _) ?_
   generalize hw : World.setRow _ _ _ = w8
   have HY8 : Hid (w8.heap[w.heap.size + 1 + 1]? = some (.cells (sgA x h (leaf + 1)) 64 (0, 0))) := by rw [← hw]; exact setRow_heap _ _ _ _ _ _ HY.out
   have HZ8 : Hid (w8.heap[w.heap.size + 1 + 1 + 1]? = some (.cells (siA 0 aM aM) 60 (0, 0))) := by rw [← hw]; exact (setRow_other _ _ _ _ (by omega)).trans HZ.out
   have HS8 : Hid (w8.heap[w.heap.size]? = some (.cells (sgA x h (leaf + 1)) 64 (0, 0))) := by rw [← hw]; exact (setRow_other _ _ _ _ (by omega)).trans HSv.out
   have HG8 : Hid (w8.heap[gs]? = some (.cells (siA leaf (.slice spc 68 capc) (.slice (some ⟨gp, 0, none⟩) h h)) 60 (0, 0))) := by rw [← hw]; exact (setRow_other _ _ _ _ (by omega)).trans HGv.out
   have HC8 : Hid (OwnHv w8 w.heap.size (.slice spc 68 capc) (fF x leaf d)) := by rw [← hw]; exact HCv.out.setRow HY.out kI _
   have HP8 : Hid (OwnHv w8 w.heap.size (.slice (some ⟨gp, 0, none⟩) h h) (dM x h leaf)) := by rw [← hw]; exact HPv.out.setRow HY.out kI _
   have HB8 : Hid (Below w.heap.size w w8) := by rw [← hw]; exact below_setRow HBv.out.drew (by omega) _
   clear hw
   skip
   refine hK.out _ _ ⟨HS8.out, HG8.out⟩ fun _ => ?_; clear hK K
   try simp only [Act.put, zA, zB, zC, zD, zE, zF]
   refine zr 3 rfl (fun K hK => ?_)
   rw [if_pos (by rfl)]
   refine wp_store_row 60 _ _ rfl (w.heap.size + 1 + 1 + 1) (siA leaf (.slice spc 68 capc) (.slice (some ⟨gp, 0, none⟩) h h)) rfl rfl 60 _ HZ8.out (aP _ _ _) rfl (bV _ _ _ _ _ _ _) ?_
   generalize hw : World.setRow w8 _ _ = w9
   have HZ9 : Hid (w9.heap[w.heap.size + 1 + 1 + 1]? = some (.cells (siA leaf (.slice spc 68 capc) (.slice (some ⟨gp, 0, none⟩) h h)) 60 (0, 0))) := by rw [← hw]; exact setRow_heap _ _ _ _ _ _ HZ8.out
   have HY9 : Hid (w9.heap[w.heap.size + 1 + 1]? = some (.cells (sgA x h (leaf + 1)) 64 (0, 0))) := by rw [← hw]; exact (setRow_other _ _ _ _ (by omega)).trans HY8.out
   have HS9 : Hid (w9.heap[w.heap.size]? = some (.cells (sgA x h (leaf + 1)) 64 (0, 0))) := by rw [← hw]; exact (setRow_other _ _ _ _ (by omega)).trans HS8.out
   have HG9 : Hid (w9.heap[gs]? = some (.cells (siA leaf (.slice spc 68 capc) (.slice (some ⟨gp, 0, none⟩) h h)) 60 (0, 0))) := by rw [← hw]; exact (setRow_other _ _ _ _ (by omega)).trans HG8.out
   have HC9 : Hid (OwnHv w9 w.heap.size (.slice spc 68 capc) (fF x leaf d)) := by rw [← hw]; exact HC8.out.setRow HZ8.out gW _
   have HP9 : Hid (OwnHv w9 w.heap.size (.slice (some ⟨gp, 0, none⟩) h h) (dM x h leaf)) := by rw [← hw]; exact HP8.out.setRow HZ8.out gW _
   have HB9 : Hid (Below w.heap.size w w9) := by rw [← hw]; exact below_setRow HB8.out (by omega) _
   clear hw
   skip
   refine hK.out _ _ ⟨HS9.out, HG9.out⟩ fun _ => ?_; clear hK K
   try simp only [Act.put, zA, zB, zC, zD, zE, zF]
   refine zv 4 rfl ?_
   refine zd ?_ _
   go_wp2_with fail
   exact bodyPost_ret (aY (P := Tryz.prog) rfl _ _ (w.heap.size + 1 + 1) (w.heap.size + 1 + 1 + 1) 64 60 _ _ (0, 0) (0, 0) _ _ rfl HY9.out rfl HZ9.out Tryz.underlying64 rfl (aJ dR.out) Tryz.underlying60 rfl (aP _ _ _)) rfl ⟨spc, capc, gp, rfl, HC9.out, HP9.out, HB9.out⟩
  ·have HO := zh (heap_alloc_new w2 (.cells (siA 0 aM aM) 60))
   have HQ : Hid (Below w2.heap.size w2 ((w2.alloc (.cells (siA 0 aM aM) 60)))) := (aB w2 _)
   have HN := zh (aK w2 (.cells (siA 0 aM aM) 60))
   go_simp
   generalize hw : World.alloc w2 _ = w3
   obtain ⟨gs, hgs⟩ : ∃ gs, gs = w2.heap.size := ⟨_, rfl⟩
   rw [← hgs]
   have HGw3 : Hid (w3.heap[gs]? = some (.cells (siA 0 aM aM) 60 (0, 0))) := by rw [hgs, ← hw]; exact HO.out
   have oF : Hid (Below w2.heap.size w2 w3) := by rw [← hw]; exact HQ.out
   have hgw3 : gs < w3.heap.size := by rw [hgs, ← hw]; exact Nat.lt_of_lt_of_eq (Nat.lt_succ_self _) HN.out.symm
   have hgb : w.heap.size + 4 ≤ gs := by omega
   clear hw HO HQ HN hgs
   have JM : Hid (w3.heap[w.heap.size]? = some (.cells (sgA x h leaf) 64 (0, 0))) := (oF.out.block _ (by omega)).trans AG.out
   have JQ : Hid (w3.heap[w.heap.size + 1]? = some (.cells (dgA d) 43 (0, 0))) := (oF.out.block _ (by omega)).trans NF.out
   have PC : Hid (w3.heap[w.heap.size + 1 + 1]? = some (.cells (sgA bK 0 0) 64 (0, 0))) := (oF.out.block _ (by omega)).trans HYw2.out
   have PA : Hid (w3.heap[w.heap.size + 1 + 1 + 1]? = some (.cells (siA 0 aM aM) 60 (0, 0))) := (oF.out.block _ (by omega)).trans HZw2.out
   have QF : Hid (OwnHv w3 w.heap.size (.slice spc 68 capc) (fF x leaf d)) := HCw2.out.below oF.out
   have MU : Hid (Below w.heap.size w w3) := NG.out.trans (oF.out.mono (by omega))
   have hsw3 : w.heap.size + 4 ≤ w3.heap.size := by have := oF.out.size; omega
   refine hK.out _ _ ⟨JM.out, JQ.out⟩ fun _ => ?_; clear hK K
   try simp only [Act.put, zA, zB, zC, zD, zE, zF]
   refine zr 9 rfl (fun K hK => ?_)
   go_simp
   with_reducible refine (HC9.out _ MU.out (by omega)).mono ?_
   rintro e w4 ⟨gp, rfl, ho, hb⟩
   have mA : Hid (Below w3.heap.size w3 w4) := hb
   have PO : Hid (OwnHv w4 w.heap.size (.slice (some ⟨gp, 0, none⟩) h h) (dM x h leaf)) := ho.base (by omega)
   clear ho hb
   have JL : Hid (w4.heap[w.heap.size]? = some (.cells (sgA x h leaf) 64 (0, 0))) := (mA.out.block _ (by omega)).trans JM.out
   have JP : Hid (w4.heap[w.heap.size + 1]? = some (.cells (dgA d) 43 (0, 0))) := (mA.out.block _ (by omega)).trans JQ.out
   have PB : Hid (w4.heap[w.heap.size + 1 + 1]? = some (.cells (sgA bK 0 0) 64 (0, 0))) := (mA.out.block _ (by omega)).trans PC.out
   have OZ : Hid (w4.heap[w.heap.size + 1 + 1 + 1]? = some (.cells (siA 0 aM aM) 60 (0, 0))) := (mA.out.block _ (by omega)).trans PA.out
   have QE : Hid (OwnHv w4 w.heap.size (.slice spc 68 capc) (fF x leaf d)) := QF.out.below mA.out
   have yR : Hid (w4.heap[gs]? = some (.cells (siA 0 aM aM) 60 (0, 0))) := (mA.out.block _ (by omega)).trans HGw3.out
   have QH : Hid (Below w.heap.size w w4) := MU.out.trans (mA.out.mono (by omega))
   have hsw4 : w.heap.size + 4 ≤ w4.heap.size := by have := mA.out.size; omega
   have hgw4 : gs < w4.heap.size := by have := mA.out.size; omega
   go_wp2_with fail
   refine hK.out _ _ ⟨JL.out, JP.out⟩ fun _ => ?_; clear hK K
   try simp only [Act.put, zA, zB, zC, zD, zE, zF]
   refine zv 10 rfl ?_
   refine zr 12 rfl (fun K hK => ?_)
   rw [if_pos (by rfl)]
   refine wp_store_row 60 _ _ rfl gs (siA leaf (.slice spc 68 capc) (.slice (some ⟨gp, 0, none⟩) h h)) rfl rfl 60 _ yR.out (aP _ _ _) rfl (bV _ _ _ _ _ _ _) ?_
   generalize hw : World.setRow w4 _ _ = wy
   have HGy : Hid (wy.heap[gs]? = some (.cells (siA leaf (.slice spc 68 capc) (.slice (some ⟨gp, 0, none⟩) h h)) 60 (0, 0))) := by rw [← hw]; exact setRow_heap _ _ _ _ _ _ yR.out
   have HSy : Hid (wy.heap[w.heap.size]? = some (.cells (sgA x h leaf) 64 (0, 0))) := by rw [← hw]; exact (setRow_other _ _ _ _ (by omega)).trans JL.out
   have HDy : Hid (wy.heap[w.heap.size + 1]? = some (.cells (dgA d) 43 (0, 0))) := by rw [← hw]; exact (setRow_other _ _ _ _ (by omega)).trans JP.out
   have HYy : Hid (wy.heap[w.heap.size + 1 + 1]? = some (.cells (sgA bK 0 0) 64 (0, 0))) := by rw [← hw]; exact (setRow_other _ _ _ _ (by omega)).trans PB.out
   have HZy : Hid (wy.heap[w.heap.size + 1 + 1 + 1]? = some (.cells (siA 0 aM aM) 60 (0, 0))) := by rw [← hw]; exact (setRow_other _ _ _ _ (by omega)).trans OZ.out
   have HCy : Hid (OwnHv wy w.heap.size (.slice spc 68 capc) (fF x leaf d)) := by rw [← hw]; exact QE.out.setRow yR.out gW _
   have HPy : Hid (OwnHv wy w.heap.size (.slice (some ⟨gp, 0, none⟩) h h) (dM x h leaf)) := by rw [← hw]; exact PO.out.setRow yR.out gW _
   have HBy : Hid (Below w.heap.size w wy) := by rw [← hw]; exact below_setRow QH.out (by omega) _
   clear hw
   refine hK.out _ _ ⟨HSy.out, HDy.out⟩ fun _ => ?_; clear hK K
   try simp only [Act.put, zA, zB, zC, zD, zE, zF]
   refine zd ?_ _
   have c17 := tA dR.out HSy.out
   have f17 := frozen_of_row _ _ 17 _ _ HSy.out
   go_wp2_with fail
   clear c17 f17
   generalize hw : World.setCell wy _ _ = wv
   have HSv : Hid (wv.heap[w.heap.size]? = some (.cells (sgA x h (leaf + 1)) 64 (0, 0))) := by show _ = _; rw [← hw, heap_setCell_same _ _ _ _ _ _ HSy.out, rI dR.out]
   have HGv : Hid (wv.heap[gs]? = some (.cells (siA leaf (.slice spc 68 capc) (.slice (some ⟨gp, 0, none⟩) h h)) 60 (0, 0))) := by rw [← hw]; exact (heap_setCell_other _ _ _ _ (by show gs ≠ w.heap.size; omega)).trans HGy.out
   have HY : Hid (wv.heap[w.heap.size + 1 + 1]? = some (.cells (sgA bK 0 0) 64 (0, 0))) := by rw [← hw]; exact (heap_setCell_other _ _ _ _ (by show w.heap.size + 1 + 1 ≠ w.heap.size; omega)).trans HYy.out
   have HZ : Hid (wv.heap[w.heap.size + 1 + 1 + 1]? = some (.cells (siA 0 aM aM) 60 (0, 0))) := by rw [← hw]; exact (heap_setCell_other _ _ _ _ (by show w.heap.size + 1 + 1 + 1 ≠ w.heap.size; omega)).trans HZy.out
   have HCv : Hid (OwnHv wv w.heap.size (.slice spc 68 capc) (fF x leaf d)) := by rw [← hw]; exact HCy.out.setCell HSy.out kI _ _
   have HPv : Hid (OwnHv wv w.heap.size (.slice (some ⟨gp, 0, none⟩) h h) (dM x h leaf)) := by rw [← hw]; exact HPy.out.setCell HSy.out kI _ _
   have HBv : Hid (Below w.heap.size w wv) := by rw [← hw]; exact HBy.out.setCell (by show w.heap.size ≤ w.heap.size; omega) _
   clear hw
   refine wp_region_held_drew (S := fun w' => w'.heap[w.heap.size]? = some (.cells (sgA x h (leaf + 1)) 64 (0, 0)) ∧ w'.heap[gs]? = some (.cells (siA leaf (.slice spc 68 capc) (.slice (some ⟨gp, 0, none⟩) h h)) 60 (0, 0))) (by kernel_rfl) ⟨HSv.out, HGv.out⟩ (fun hHeld => ?_)
   refine' zk 0 rfl (v := _) (yieldsIf_load_mid (by rfl) _ _ rfl _ _ rfl _ _ ?hS0n12 Tryz.underlying64 rfl (fY dR.out)) ?rest0n12
   case hS0n12 =>
    intro w' hSw
    exact aV hSw.1
   try simp only [Act.put, zA, zB, zC, zD, zE, zF]
   refine' zk 1 rfl (v := _) (yieldsIf_load_mid (by rfl) _ _ rfl _ _ rfl _ _ ?hS1n13 Tryz.underlying60 rfl (nZ leaf (.slice spc 68 capc) (.slice (some ⟨gp, 0, none⟩) h h))) ?rest1n13
   case hS1n13 =>
    intro w' hSw
    exact aV (L := siL leaf (.slice spc 68 capc) (.slice (some ⟨gp, 0, none⟩) h h)) hSw.2
   try simp only [Act.put, zA, zB, zC, zD, zE, zF]
   refine zr 2 rfl (fun K hK => ?_)
   rw [if_pos (by rfl)]
   refine wp_store_row 64 _ _ rfl (w.heap.size + 1 + 1) (sgA x h (leaf + 1)) rfl rfl 64 _ HY.out (aJ dR.out) (by rw [aC aD, aC dR.out]) (bA _ _ _) ?_
   generalize hw : World.setRow _ _ _ = w8
   have HY8 : Hid (w8.heap[w.heap.size + 1 + 1]? = some (.cells (sgA x h (leaf + 1)) 64 (0, 0))) := by rw [← hw]; exact setRow_heap _ _ _ _ _ _ HY.out
   have HZ8 : Hid (w8.heap[w.heap.size + 1 + 1 + 1]? = some (.cells (siA 0 aM aM) 60 (0, 0))) := by rw [← hw]; exact (setRow_other _ _ _ _ (by omega)).trans HZ.out
   have HS8 : Hid (w8.heap[w.heap.size]? = some (.cells (sgA x h (leaf + 1)) 64 (0, 0))) := by rw [← hw]; exact (setRow_other _ _ _ _ (by omega)).trans HSv.out
   have HG8 : Hid (w8.heap[gs]? = some (.cells (siA leaf (.slice spc 68 capc) (.slice (some ⟨gp, 0, none⟩) h h)) 60 (0, 0))) := by rw [← hw]; exact (setRow_other _ _ _ _ (by omega)).trans HGv.out
   have HC8 : Hid (OwnHv w8 w.heap.size (.slice spc 68 capc) (fF x leaf d)) := by rw [← hw]; exact HCv.out.setRow HY.out kI _
   have HP8 : Hid (OwnHv w8 w.heap.size (.slice (some ⟨gp, 0, none⟩) h h) (dM x h leaf)) := by rw [← hw]; exact HPv.out.setRow HY.out kI _
   have HB8 : Hid (Below w.heap.size w w8) := by rw [← hw]; exact below_setRow HBv.out.drew (by omega) _
   clear hw
   skip
   refine hK.out _ _ ⟨HS8.out, HG8.out⟩ fun _ => ?_; clear hK K
   try simp only [Act.put, zA, zB, zC, zD, zE, zF]
   refine zr 3 rfl (fun K hK => ?_)
   rw [if_pos (by rfl)]
   refine wp_store_row 60 _ _ rfl (w.heap.size + 1 + 1 + 1) (siA leaf (.slice spc 68 capc) (.slice (some ⟨gp, 0, none⟩) h h)) rfl rfl 60 _ HZ8.out (aP _ _ _) rfl (bV _ _ _ _ _ _ _) ?_
   generalize hw : World.setRow w8 _ _ = w9
   have HZ9 : Hid (w9.heap[w.heap.size + 1 + 1 + 1]? = some (.cells (siA leaf (.slice spc 68 capc) (.slice (some ⟨gp, 0, none⟩) h h)) 60 (0, 0))) := by rw [← hw]; exact setRow_heap _ _ _ _ _ _ HZ8.out
   have HY9 : Hid (w9.heap[w.heap.size + 1 + 1]? = some (.cells (sgA x h (leaf + 1)) 64 (0, 0))) := by rw [← hw]; exact (setRow_other _ _ _ _ (by omega)).trans HY8.out
   have HS9 : Hid (w9.heap[w.heap.size]? = some (.cells (sgA x h (leaf + 1)) 64 (0, 0))) := by rw [← hw]; exact (setRow_other _ _ _ _ (by omega)).trans HS8.out
   have HG9 : Hid (w9.heap[gs]? = some (.cells (siA leaf (.slice spc 68 capc) (.slice (some ⟨gp, 0, none⟩) h h)) 60 (0, 0))) := by rw [← hw]; exact (setRow_other _ _ _ _ (by omega)).trans HG8.out
   have HC9 : Hid (OwnHv w9 w.heap.size (.slice spc 68 capc) (fF x leaf d)) := by rw [← hw]; exact HC8.out.setRow HZ8.out gW _
   have HP9 : Hid (OwnHv w9 w.heap.size (.slice (some ⟨gp, 0, none⟩) h h) (dM x h leaf)) := by rw [← hw]; exact HP8.out.setRow HZ8.out gW _
   have HB9 : Hid (Below w.heap.size w w9) := by rw [← hw]; exact below_setRow HB8.out (by omega) _
   clear hw
   skip
   refine hK.out _ _ ⟨HS9.out, HG9.out⟩ fun _ => ?_; clear hK K
   try simp only [Act.put, zA, zB, zC, zD, zE, zF]
   refine zv 4 rfl ?_
   refine zd ?_ _
   go_wp2_with fail
   exact bodyPost_ret (aY (P := Tryz.prog) rfl _ _ (w.heap.size + 1 + 1) (w.heap.size + 1 + 1 + 1) 64 60 _ _ (0, 0) (0, 0) _ _ rfl HY9.out rfl HZ9.out Tryz.underlying64 rfl (aJ dR.out) Tryz.underlying60 rfl (aP _ _ _)) rfl ⟨spc, capc, gp, rfl, HC9.out, HP9.out, HB9.out⟩
 ·have HO := zh (heap_alloc_new w1 (.cells (siA 0 aM aM) 60))
  have HQ : Hid (Below w1.heap.size w1 (World.drew (w1.alloc (.cells (siA 0 aM aM) 60)))) := (aB w1 _).drew
  have HN := zh (aK w1 (.cells (siA 0 aM aM) 60))
  go_simp
  generalize hw : World.drew (World.alloc w1 _) = w2
  obtain ⟨gs, hgs⟩ : ∃ gs, gs = w1.heap.size := ⟨_, rfl⟩
  rw [← hgs]
  have HGw2 : Hid (w2.heap[gs]? = some (.cells (siA 0 aM aM) 60 (0, 0))) := by rw [hgs, ← hw]; exact HO.out
  have AI : Hid (Below w1.heap.size w1 w2) := by rw [← hw]; exact HQ.out
  have hgw2 : gs < w2.heap.size := by rw [hgs, ← hw]; exact Nat.lt_of_lt_of_eq (Nat.lt_succ_self _) HN.out.symm
  have hgb : w.heap.size + 4 ≤ gs := by omega
  clear hw HO HQ HN hgs
  have AG : Hid (w2.heap[w.heap.size]? = some (.cells (sgA x h leaf) 64 (0, 0))) := (AI.out.block _ (by omega)).trans uT.out
  have NF : Hid (w2.heap[w.heap.size + 1]? = some (.cells (dgA d) 43 (0, 0))) := (AI.out.block _ (by omega)).trans HDw1.out
  have HYw2 : Hid (w2.heap[w.heap.size + 1 + 1]? = some (.cells (sgA bK 0 0) 64 (0, 0))) := (AI.out.block _ (by omega)).trans HYw1.out
  have HZw2 : Hid (w2.heap[w.heap.size + 1 + 1 + 1]? = some (.cells (siA 0 aM aM) 60 (0, 0))) := (AI.out.block _ (by omega)).trans HZw1.out
  have NG : Hid (Below w.heap.size w w2) := HBw1.out.trans (AI.out.mono (by omega))
  have hsw2 : w.heap.size + 4 ≤ w2.heap.size := by have := AI.out.size; omega
  refine hK.out _ _ ⟨AG.out, NF.out⟩ fun _ => ?_; clear hK K
  try simp only [Act.put, zA, zB, zC, zD, zE, zF]
  refine zr 7 rfl (fun K hK => ?_)
  go_simp
  with_reducible refine (HC7.out _ NG.out (by omega)).mono ?_
  rintro e w3 ⟨spc, capc, rfl, ho, hb⟩
  have oF : Hid (Below w2.heap.size w2 w3) := hb
  have QF : Hid (OwnHv w3 w.heap.size (.slice spc 68 capc) (fF x leaf d)) := ho.base (by omega)
  clear ho hb
  have JM : Hid (w3.heap[w.heap.size]? = some (.cells (sgA x h leaf) 64 (0, 0))) := (oF.out.block _ (by omega)).trans AG.out
  have JQ : Hid (w3.heap[w.heap.size + 1]? = some (.cells (dgA d) 43 (0, 0))) := (oF.out.block _ (by omega)).trans NF.out
  have PC : Hid (w3.heap[w.heap.size + 1 + 1]? = some (.cells (sgA bK 0 0) 64 (0, 0))) := (oF.out.block _ (by omega)).trans HYw2.out
  have PA : Hid (w3.heap[w.heap.size + 1 + 1 + 1]? = some (.cells (siA 0 aM aM) 60 (0, 0))) := (oF.out.block _ (by omega)).trans HZw2.out
  have HGw3 : Hid (w3.heap[gs]? = some (.cells (siA 0 aM aM) 60 (0, 0))) := (oF.out.block _ (by omega)).trans HGw2.out
  have MU : Hid (Below w.heap.size w w3) := NG.out.trans (oF.out.mono (by omega))
  have hsw3 : w.heap.size + 4 ≤ w3.heap.size := by have := oF.out.size; omega
  have hgw3 : gs < w3.heap.size := by have := oF.out.size; omega
  go_wp2_with fail
  refine hK.out _ _ ⟨JM.out, JQ.out⟩ fun _ => ?_; clear hK K
  try simp only [Act.put, zA, zB, zC, zD, zE, zF]
  refine zr 9 rfl (fun K hK => ?_)
  go_simp
  with_reducible refine (HC9.out _ MU.out (by omega)).mono ?_
  rintro e w4 ⟨gp, rfl, ho, hb⟩
  have mA : Hid (Below w3.heap.size w3 w4) := hb
  have PO : Hid (OwnHv w4 w.heap.size (.slice (some ⟨gp, 0, none⟩) h h) (dM x h leaf)) := ho.base (by omega)
  clear ho hb
  have JL : Hid (w4.heap[w.heap.size]? = some (.cells (sgA x h leaf) 64 (0, 0))) := (mA.out.block _ (by omega)).trans JM.out
  have JP : Hid (w4.heap[w.heap.size + 1]? = some (.cells (dgA d) 43 (0, 0))) := (mA.out.block _ (by omega)).trans JQ.out
  have PB : Hid (w4.heap[w.heap.size + 1 + 1]? = some (.cells (sgA bK 0 0) 64 (0, 0))) := (mA.out.block _ (by omega)).trans PC.out
  have OZ : Hid (w4.heap[w.heap.size + 1 + 1 + 1]? = some (.cells (siA 0 aM aM) 60 (0, 0))) := (mA.out.block _ (by omega)).trans PA.out
  have QE : Hid (OwnHv w4 w.heap.size (.slice spc 68 capc) (fF x leaf d)) := QF.out.below mA.out
  have yR : Hid (w4.heap[gs]? = some (.cells (siA 0 aM aM) 60 (0, 0))) := (mA.out.block _ (by omega)).trans HGw3.out
  have QH : Hid (Below w.heap.size w w4) := MU.out.trans (mA.out.mono (by omega))
  have hsw4 : w.heap.size + 4 ≤ w4.heap.size := by have := mA.out.size; omega
  have hgw4 : gs < w4.heap.size := by have := mA.out.size; omega
  go_wp2_with fail
  refine hK.out _ _ ⟨JL.out, JP.out⟩ fun _ => ?_; clear hK K
  try simp only [Act.put, zA, zB, zC, zD, zE, zF]
  refine zv 10 rfl ?_
  refine zr 12 rfl (fun K hK => ?_)
  rw [if_pos (by rfl)]
  refine wp_store_row 60 _ _ rfl gs (siA leaf (.slice spc 68 capc) (.slice (some ⟨gp, 0, none⟩) h h)) rfl rfl 60 _ yR.out (aP _ _ _) rfl (bV _ _ _ _ _ _ _) ?_
  generalize hw : World.setRow w4 _ _ = wy
  have HGy : Hid (wy.heap[gs]? = some (.cells (siA leaf (.slice spc 68 capc) (.slice (some ⟨gp, 0, none⟩) h h)) 60 (0, 0))) := by rw [← hw]; exact setRow_heap _ _ _ _ _ _ yR.out
  have HSy : Hid (wy.heap[w.heap.size]? = some (.cells (sgA x h leaf) 64 (0, 0))) := by rw [← hw]; exact (setRow_other _ _ _ _ (by omega)).trans JL.out
  have HDy : Hid (wy.heap[w.heap.size + 1]? = some (.cells (dgA d) 43 (0, 0))) := by rw [← hw]; exact (setRow_other _ _ _ _ (by omega)).trans JP.out
  have HYy : Hid (wy.heap[w.heap.size + 1 + 1]? = some (.cells (sgA bK 0 0) 64 (0, 0))) := by rw [← hw]; exact (setRow_other _ _ _ _ (by omega)).trans PB.out
  have HZy : Hid (wy.heap[w.heap.size + 1 + 1 + 1]? = some (.cells (siA 0 aM aM) 60 (0, 0))) := by rw [← hw]; exact (setRow_other _ _ _ _ (by omega)).trans OZ.out
  have HCy : Hid (OwnHv wy w.heap.size (.slice spc 68 capc) (fF x leaf d)) := by rw [← hw]; exact QE.out.setRow yR.out gW _
  have HPy : Hid (OwnHv wy w.heap.size (.slice (some ⟨gp, 0, none⟩) h h) (dM x h leaf)) := by rw [← hw]; exact PO.out.setRow yR.out gW _
  have HBy : Hid (Below w.heap.size w wy) := by rw [← hw]; exact below_setRow QH.out (by omega) _
  clear hw
  refine hK.out _ _ ⟨HSy.out, HDy.out⟩ fun _ => ?_; clear hK K
  try simp only [Act.put, zA, zB, zC, zD, zE, zF]
  refine zd ?_ _
  have c17 := tA dR.out HSy.out
  have f17 := frozen_of_row _ _ 17 _ _ HSy.out
  go_wp2_with fail
  clear c17 f17
  generalize hw : World.setCell wy _ _ = wv
  have HSv : Hid (wv.heap[w.heap.size]? = some (.cells (sgA x h (leaf + 1)) 64 (0, 0))) := by show _ = _; rw [← hw, heap_setCell_same _ _ _ _ _ _ HSy.out, rI dR.out]
  have HGv : Hid (wv.heap[gs]? = some (.cells (siA leaf (.slice spc 68 capc) (.slice (some ⟨gp, 0, none⟩) h h)) 60 (0, 0))) := by rw [← hw]; exact (heap_setCell_other _ _ _ _ (by show gs ≠ w.heap.size; omega)).trans HGy.out
  have HY : Hid (wv.heap[w.heap.size + 1 + 1]? = some (.cells (sgA bK 0 0) 64 (0, 0))) := by rw [← hw]; exact (heap_setCell_other _ _ _ _ (by show w.heap.size + 1 + 1 ≠ w.heap.size; omega)).trans HYy.out
  have HZ : Hid (wv.heap[w.heap.size + 1 + 1 + 1]? = some (.cells (siA 0 aM aM) 60 (0, 0))) := by rw [← hw]; exact (heap_setCell_other _ _ _ _ (by show w.heap.size + 1 + 1 + 1 ≠ w.heap.size; omega)).trans HZy.out
  have HCv : Hid (OwnHv wv w.heap.size (.slice spc 68 capc) (fF x leaf d)) := by rw [← hw]; exact HCy.out.setCell HSy.out kI _ _
  have HPv : Hid (OwnHv wv w.heap.size (.slice (some ⟨gp, 0, none⟩) h h) (dM x h leaf)) := by rw [← hw]; exact HPy.out.setCell HSy.out kI _ _
  have HBv : Hid (Below w.heap.size w wv) := by rw [← hw]; exact HBy.out.setCell (by show w.heap.size ≤ w.heap.size; omega) _
  clear hw
  refine wp_region_held_drew (S := fun w' => w'.heap[w.heap.size]? = some (.cells (sgA x h (leaf + 1)) 64 (0, 0)) ∧ w'.heap[gs]? = some (.cells (siA leaf (.slice spc 68 capc) (.slice (some ⟨gp, 0, none⟩) h h)) 60 (0, 0))) (by kernel_rfl) ⟨HSv.out, HGv.out⟩ (fun hHeld => ?_)
  refine' zk 0 rfl (v := _) (yieldsIf_load_mid (by rfl) _ _ rfl _ _ rfl _ _ ?hS0n16 Tryz.underlying64 rfl (fY dR.out)) ?rest0n16
  case hS0n16 =>
   intro w' hSw
   exact aV hSw.1
  try simp only [Act.put, zA, zB, zC, zD, zE, zF]
  refine' zk 1 rfl (v := _) (yieldsIf_load_mid (by rfl) _ _ rfl _ _ rfl _ _ ?hS1n17 Tryz.underlying60 rfl (nZ leaf (.slice spc 68 capc) (.slice (some ⟨gp, 0, none⟩) h h))) ?rest1n17
  case hS1n17 =>
   intro w' hSw
   exact aV (L := siL leaf (.slice spc 68 capc) (.slice (some ⟨gp, 0, none⟩) h h)) hSw.2
  try simp only [Act.put, zA, zB, zC, zD, zE, zF]
  refine zr 2 rfl (fun K hK => ?_)
  rw [if_pos (by rfl)]
  refine wp_store_row 64 _ _ rfl (w.heap.size + 1 + 1) (sgA x h (leaf + 1)) rfl rfl 64 _ HY.out (aJ dR.out) (by rw [aC aD, aC dR.out]) (bA _ _ _) ?_
  generalize hw : World.setRow _ _ _ = w8
  have HY8 : Hid (w8.heap[w.heap.size + 1 + 1]? = some (.cells (sgA x h (leaf + 1)) 64 (0, 0))) := by rw [← hw]; exact setRow_heap _ _ _ _ _ _ HY.out
  have HZ8 : Hid (w8.heap[w.heap.size + 1 + 1 + 1]? = some (.cells (siA 0 aM aM) 60 (0, 0))) := by rw [← hw]; exact (setRow_other _ _ _ _ (by omega)).trans HZ.out
  have HS8 : Hid (w8.heap[w.heap.size]? = some (.cells (sgA x h (leaf + 1)) 64 (0, 0))) := by rw [← hw]; exact (setRow_other _ _ _ _ (by omega)).trans HSv.out
  have HG8 : Hid (w8.heap[gs]? = some (.cells (siA leaf (.slice spc 68 capc) (.slice (some ⟨gp, 0, none⟩) h h)) 60 (0, 0))) := by rw [← hw]; exact (setRow_other _ _ _ _ (by omega)).trans HGv.out
  have HC8 : Hid (OwnHv w8 w.heap.size (.slice spc 68 capc) (fF x leaf d)) := by rw [← hw]; exact HCv.out.setRow HY.out kI _
  have HP8 : Hid (OwnHv w8 w.heap.size (.slice (some ⟨gp, 0, none⟩) h h) (dM x h leaf)) := by rw [← hw]; exact HPv.out.setRow HY.out kI _
  have HB8 : Hid (Below w.heap.size w w8) := by rw [← hw]; exact below_setRow HBv.out.drew (by omega) _
  clear hw
  skip
  refine hK.out _ _ ⟨HS8.out, HG8.out⟩ fun _ => ?_; clear hK K
  try simp only [Act.put, zA, zB, zC, zD, zE, zF]
  refine zr 3 rfl (fun K hK => ?_)
  rw [if_pos (by rfl)]
  refine wp_store_row 60 _ _ rfl (w.heap.size + 1 + 1 + 1) (siA leaf (.slice spc 68 capc) (.slice (some ⟨gp, 0, none⟩) h h)) rfl rfl 60 _ HZ8.out (aP _ _ _) rfl (bV _ _ _ _ _ _ _) ?_
  generalize hw : World.setRow w8 _ _ = w9
  have HZ9 : Hid (w9.heap[w.heap.size + 1 + 1 + 1]? = some (.cells (siA leaf (.slice spc 68 capc) (.slice (some ⟨gp, 0, none⟩) h h)) 60 (0, 0))) := by rw [← hw]; exact setRow_heap _ _ _ _ _ _ HZ8.out
  have HY9 : Hid (w9.heap[w.heap.size + 1 + 1]? = some (.cells (sgA x h (leaf + 1)) 64 (0, 0))) := by rw [← hw]; exact (setRow_other _ _ _ _ (by omega)).trans HY8.out
  have HS9 : Hid (w9.heap[w.heap.size]? = some (.cells (sgA x h (leaf + 1)) 64 (0, 0))) := by rw [← hw]; exact (setRow_other _ _ _ _ (by omega)).trans HS8.out
  have HG9 : Hid (w9.heap[gs]? = some (.cells (siA leaf (.slice spc 68 capc) (.slice (some ⟨gp, 0, none⟩) h h)) 60 (0, 0))) := by rw [← hw]; exact (setRow_other _ _ _ _ (by omega)).trans HG8.out
  have HC9 : Hid (OwnHv w9 w.heap.size (.slice spc 68 capc) (fF x leaf d)) := by rw [← hw]; exact HC8.out.setRow HZ8.out gW _
  have HP9 : Hid (OwnHv w9 w.heap.size (.slice (some ⟨gp, 0, none⟩) h h) (dM x h leaf)) := by rw [← hw]; exact HP8.out.setRow HZ8.out gW _
  have HB9 : Hid (Below w.heap.size w w9) := by rw [← hw]; exact below_setRow HB8.out (by omega) _
  clear hw
  skip
  refine hK.out _ _ ⟨HS9.out, HG9.out⟩ fun _ => ?_; clear hK K
  try simp only [Act.put, zA, zB, zC, zD, zE, zF]
  refine zv 4 rfl ?_
  refine zd ?_ _
  go_wp2_with fail
  exact bodyPost_ret (aY (P := Tryz.prog) rfl _ _ (w.heap.size + 1 + 1) (w.heap.size + 1 + 1 + 1) 64 60 _ _ (0, 0) (0, 0) _ _ rfl HY9.out rfl HZ9.out Tryz.underlying64 rfl (aJ dR.out) Tryz.underlying60 rfl (aP _ _ _)) rfl ⟨spc, capc, gp, rfl, HC9.out, HP9.out, HB9.out⟩
end Go.Proofs.YtcligodahogpkaaGreatDoor
