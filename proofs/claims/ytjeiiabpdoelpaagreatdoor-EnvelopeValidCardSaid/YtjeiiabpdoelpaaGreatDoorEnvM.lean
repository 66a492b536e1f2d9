/-
  Envelopes: the walks of the reference's verifies and Signers.
-/
import Derived.Test.YtjeiiabpdoelpaaGreatDoorZip
import Derived.Test.YtjeiiabpdoelpaaGreatDoorEnvL
import Derived.Test.YtjeiiabpdoelpaaGreatDoorH4
namespace Go.Proofs.YtjeiiabpdoelpaaGreatDoor
open Go.RowKit Go.Proofs.YtjeiiabpdoelpaaGreatDoor.One
set_option maxRecDepth 100000 in
set_option maxHeartbeats 4000000 in
theorem qA (t : ByteArray) (sp : Option Addr) (n cap : Nat) (b : List UInt8) (s : Value) (x : Sg) (w : World) (hp : BSrc w w.heap.size sp n cap b) (hx : OkG x) (hd : SgD w w.heap.size x) :
 Calls Tryz.prog 38 #[.agg (enA t (.slice sp n cap) s), .agg (bL x).toArray] w fun e w' => e = .returned (.bool (sZ (eG t b) (pg x))) ∧ Below w.heap.size w w' := by
 have HP := Lib.hid hp; have HX := Lib.hid hx; have HD := Lib.hid hd
 have HV := Lib.hid (yW hd (eG t b))
 have HMO := Lib.hid (iC t b)
 have HEN := Lib.hid (heap_alloc_new w (.cells (enA t (.slice sp n cap) s) 25))
 clear hp hx hd
 have HIP := Lib.hid (fD HX.out); have HIS := Lib.hid (nV x)
 go_enter Tryz.func38, Tryz.ntmps38
 go_upto_region 1 with fail
 generalize hwz : World.alloc w _ = wz
 generalize hw0 : World.alloc wz _ = w0
 have HEz : Hid (wz.heap[w.heap.size]? = some (.cells (enA t (.slice sp n cap) s) 25 (0, 0))) := by rw [← hwz]; exact HEN.out
 have HBz : Hid (Below w.heap.size w wz) := by rw [← hwz]; exact (Below.refl _ _).alloc (Nat.le_refl _) _
 have HSz : Hid (wz.heap.size = w.heap.size + 1) := by show _ = _; rw [← hwz]; simp
 have HG0 : Hid (GB w0 (w.heap.size + 1) x) := by have h := GB.new wz x; rw [HSz.out] at h; rw [← hw0]; exact h
 have uY : Hid (Below wz.heap.size wz w0) := by rw [← hw0]; exact (Below.refl _ _).alloc (Nat.le_refl _) _
 have HS0 : Hid (w0.heap.size = w.heap.size + 2) := by show _ = _; rw [← hw0, World.size_alloc, HSz.out]
 have HE0 : Hid (w0.heap[w.heap.size]? = some (.cells (enA t (.slice sp n cap) s) 25 (0, 0))) := (uY.out.block _ (by have := HSz.out; omega)).trans HEz.out
 have HB0 : Hid (Below w.heap.size w w0) := HBz.out.trans (uY.out.mono (by have := HSz.out; omega))
 clear hwz hw0 HEN HEz HBz uY HSz
 obtain ⟨B, hBe⟩ : ∃ B, B = w0.heap.size := ⟨_, rfl⟩
 have fW : Hid (Below B w0 w0) := Below.refl _ _
 have HLT : Hid (w.heap.size < B ∧ w.heap.size + 1 < B) := ⟨by have := HS0.out; omega, by have := HS0.out; omega⟩
 have hBk : B ≤ w0.heap.size := Nat.le_of_eq hBe
 clear hBe
 have NC : Hid (∀ w', Below B w0 w' → Below w.heap.size w w') := fun w' hb => HB0.out.trans (hb.mono (Nat.le_of_lt HLT.out.1))
 have HCM : Hid (∀ w', Below B w0 w' → Calls Tryz.prog 45 #[.string t, .slice sp n cap] w' fun e w'' => e = .returned (.agg (dgA (eG t b))) ∧ Below w'.heap.size w' w'') := fun w' hb => lX t sp n cap b w' ((HP.out.below (NC.out _ hb) (Nat.le_refl _)).more (NC.out _ hb).size)
 have HCV : Hid (∀ w', Below B w0 w' → Calls Tryz.prog 71 #[.agg (sgP x).toArray, .agg (dgA (eG t b)), .agg (sgS x).toArray] w' fun e w'' => e = .returned (.bool (sZ (eG t b) (pg x))) ∧ Below w'.heap.size w' w'') := fun w' hb => by
  have h := tS x.h x.r (eG t b) x.a x.sp x.n x.c x.sq x.m x.d x.l x.q w' HX.out HMO.out (HD.out.up (NC.out _ hb) (Nat.le_refl _)).c (HD.out.up (NC.out _ hb) (Nat.le_refl _)).p
  rw [HV.out] at h
  exact h
 clear HV HMO HP HD
 generalize dgA (eG t b) = M at *
 refine wp_region_held_drew (S := fun w' => Below B w0 w') (by kernel_rfl) fW.out.drew (fun hHeld => ?_)
 refine zw 0 rfl (v := ?_) ?_ ?_; rotate_left
 ·intro w' hSw; go_simp; try with_reducible rfl
 try simp only [Act.put, zA, zB, zC, zD, zE, zF]
 refine' zk 1 rfl (v := _) (yieldsIf_load_mid (by rfl) _ _ rfl _ _ rfl _ _ ?hS1n2 Tryz.underlying64 rfl HIP.out) ?rest1n2
 case hS1n2 =>
  intro w' hSw
  exact aA HG0.out.p hSw HLT.out.2
 try simp only [Act.put, zA, zB, zC, zD, zE, zF]
 refine zw 2 rfl (v := ?_) ?_ ?_; rotate_left
 ·intro w' hSw; go_simp; try with_reducible rfl
 try simp only [Act.put, zA, zB, zC, zD, zE, zF]
 refine zw 3 rfl (v := ?_) ?_ ?_; rotate_left
 ·intro w' hSw; have c0 := ES ((hSw.block _ HLT.out.1).trans HE0.out); go_simp; try with_reducible rfl
 try simp only [Act.put, zA, zB, zC, zD, zE, zF]
 refine zw 4 rfl (v := ?_) ?_ ?_; rotate_left
 ·intro w' hSw; go_simp; try with_reducible rfl
 try simp only [Act.put, zA, zB, zC, zD, zE, zF]
 refine zw 5 rfl (v := ?_) ?_ ?_; rotate_left
 ·intro w' hSw; have c1 := oR ((hSw.block _ HLT.out.1).trans HE0.out); go_simp; try with_reducible rfl
 try simp only [Act.put, zA, zB, zC, zD, zE, zF]
 refine zw 7 rfl (v := ?_) ?_ ?_; rotate_left
 ·intro w' hSw; go_simp; try with_reducible rfl
 try simp only [Act.put, zA, zB, zC, zD, zE, zF]
 refine' zk 8 rfl (v := _) (yieldsIf_load_mid (by rfl) _ _ rfl _ _ rfl _ _ ?hS8n8 Tryz.underlying67 rfl HIS.out) ?rest8n8
 case hS8n8 =>
  intro w' hSw
  exact aA (HG0.out.s HX.out) hSw HLT.out.2
 try simp only [Act.put, zA, zB, zC, zD, zE, zF]
 refine zr 6 rfl (fun K hK => ?_)
 go_simp
 with_reducible refine (HCM.out _ fW.out.drew).mono ?_
 rintro e v1 ⟨rfl, hb⟩
 have dC : Hid (Below B w0 v1) := (fW.out.drew).trans (hb.mono (by have := ((fW.out.drew)).size; have := hBk; omega))
 clear hb
 go_wp2_with fail
 refine hK.out _ _ dC.out (fun hHeld => ?_); clear hK K
 try simp only [Act.put, zA, zB, zC, zD, zE, zF]
 refine zr 9 rfl (fun K hK => ?_)
 go_simp
 with_reducible refine (HCV.out _ dC.out).mono ?_
 rintro e v2 ⟨rfl, hb⟩
 have iR : Hid (Below B w0 v2) := dC.out.trans (hb.mono (by have := (dC.out).size; have := hBk; omega))
 clear hb
 go_wp2_with fail
 refine hK.out _ _ iR.out (fun hHeld => ?_); clear hK K
 try simp only [Act.put, zA, zB, zC, zD, zE, zF]
 refine zw 10 rfl (v := ?_) ?_ ?_; rotate_left
 ·intro w' hSw; go_simp; try with_reducible rfl
 try simp only [Act.put, zA, zB, zC, zD, zE, zF]
 refine zd ?_ _
 go_wp2_with fail
 go_ret
 exact ⟨rfl, NC.out _ iR.out⟩
set_option maxRecDepth 100000 in
set_option maxHeartbeats 4000000 in
theorem rI (t : ByteArray) (sp : Option Addr) (n cap : Nat) (b : List UInt8) (sq : Option Addr) (m cq : Nat) (l : List Sg) (w : World) (ht : t.size ≤ maxLen) (hp : BSrc w w.heap.size sp n cap b) (hl : SgsIn w w.heap.size sq m cq l) :
 Calls Tryz.prog 16 #[.agg (enA t (.slice sp n cap) (.slice sq m cq))] w fun e w' => ∃ sp' cap', e = .returned (.slice sp' (tP t b (l.map pg)).length cap') ∧ OwnDg w' w.heap.size (.slice sp' (tP t b (l.map pg)).length cap') (tP t b (l.map pg)) ∧ Below w.heap.size w w' := by
 have HP := Lib.hid hp; have HL := Lib.hid hl
 have HE := Lib.hid (heap_alloc_new w (.cells (enA t (.slice sp n cap) (.slice sq m cq)) 25))
 clear hp hl
 obtain ⟨S, hS⟩ : ∃ S, tP t b (l.map pg) = S := ⟨_, rfl⟩
 have HSG : Hid (S = if gM t b (l.map pg) = true then mW (eG t b) (l.map pg) else []) := by show _ = _; rw [← hS]; rfl
 rw [hS]
 clear hS
 go_enter Tryz.func16, Tryz.ntmps16
 go_upto_region 1 with fail
 generalize hw0 : World.alloc w _ = w0
 have HE0 : Hid (w0.heap[w.heap.size]? = some (.cells (enA t (.slice sp n cap) (.slice sq m cq)) 25 (0, 0))) := by rw [← hw0]; exact HE.out
 have HB0 : Hid (Below w.heap.size w w0) := by rw [← hw0]; exact (Below.refl _ _).alloc (Nat.le_refl _) _
 have hs0 : w0.heap.size = w.heap.size + 1 := by rw [← hw0]; simp
 clear hw0 HE
 have HP0 := Lib.hid ((HP.out.below HB0.out (Nat.le_refl _)).more (show w.heap.size ≤ w0.heap.size by omega))
 have HL0 := Lib.hid (HL.out.up HB0.out (Nat.le_refl _))
 have HCV := Lib.hid (jX t sp n cap b sq m cq l w0 ht HP0.out HL0.out)
 have HIE := Lib.hid (aS t (.slice sp n cap) (.slice sq m cq))
 go_wp2_with (refine wpList_load_row rfl 25 _ rfl w.heap.size rfl 25 _ (0, 0) _ HE0.out Tryz.underlying25 rfl HIE.out ?_)
 refine HCV.out.mono ?_
 rintro e w1 ⟨rfl, hb⟩
 have HB1 := Lib.hid hb; clear hb HCV
 have hs1 := HB1.out.size
 have tF : Hid (Below w.heap.size w w1) := HB0.out.trans (HB1.out.mono (by omega))
 have HVL := Lib.hid (@kD t b (l.map pg))
 generalize gM t b (l.map pg) = v at *
 cases v
 ·have yN : Hid (S = []) := HSG.out
  clear HSG
  go_wp2_with fail
  go_ret
  exact ⟨none, 0, by rw [yN.out]; rfl, by rw [yN.out]; exact OwnDg.nil _ _, tF.out⟩
 ·have yN : Hid (S = mW (eG t b) (l.map pg)) := HSG.out
  have h8 : m ≤ 8 := by have := HVL.out rfl; rw [List.length_map, HL.out.len] at this; exact this
  clear HSG HVL
  have HE1 : Hid (w1.heap[w.heap.size]? = some (.cells (enA t (.slice sp n cap) (.slice sq m cq)) 25 (0, 0))) := (HB1.out.block _ (by omega)).trans HE0.out
  obtain ⟨d, hd⟩ : ∃ d, eG t b = d := ⟨_, rfl⟩
  have HDD := Lib.hid hd
  rw [hd] at yN
  clear hd HE0
  obtain ⟨B, hBe⟩ : ∃ B, B = w1.heap.size := ⟨_, rfl⟩
  have hBW : w.heap.size < B := by omega
  clear hs0
  go_wp2_with fail
  go_loopw [3, 4] (fun v i wr => ∃ k : Nat, k ≤ m ∧ i = .int .i64 k ∧ Hid (OwnDg wr B v (mW d ((l.map pg).take k))) ∧ Hid (Below B w1 wr)) (fun _ i _ => m - (intOf i).toNat)
  case atStart => exact ⟨0, Nat.zero_le _, rfl, OwnDg.nil _ _, Below.refl _ _⟩
  case round =>
   obtain ⟨k, hk, rfl, HOW, HBR⟩ := hrel
   have hszr : B ≤ wr.heap.size := by have := HBR.out.size; omega
   have KW : Hid (Below w.heap.size w wr) := tF.out.trans (HBR.out.mono (Nat.le_of_lt hBW))
   have HER : Hid (wr.heap[w.heap.size]? = some (.cells (enA t (.slice sp n cap) (.slice sq m cq)) 25 (0, 0))) := (HBR.out.block _ hBW).trans HE1.out
   have cs := jS HER.out
   by_cases hlt : k < m
   ·have hdl : decide ((k : Int) < (m : Int)) = true := by simp; omega
    obtain ⟨bq, off, rfl, hbB, hcap, hr⟩ := HL.out.cells (by omega)
    have hkl : k < l.length := by rw [HL.out.len]; exact hlt
    obtain ⟨x, hx⟩ : ∃ x, l[k]? = some x := ⟨l[k], List.getElem?_eq_getElem hkl⟩
    have hxm : x ∈ l := List.mem_of_getElem? hx
    have HR := Lib.hid (aA (hr k x hx) KW.out hbB)
    have HOX := Lib.hid (HL.out.ok x hxm)
    have HI := Lib.hid (fZ HOX.out); have HIP := Lib.hid (fD HOX.out)
    have HDX := Lib.hid (HL.out.dat x hxm)
    have HTK := Lib.hid (show (l.map pg).take (k + 1) = (l.map pg).take k ++ [pg x] by rw [List.take_add_one, List.getElem?_map, hx]; rfl)
    have p1 : (0 : Int) ≤ (k : Int) := by omega
    have p2 : (k : Int) < (m : Int) := by omega
    have p3 : (m : Int) ≤ (cq : Int) := by omega
    have HBQ := Lib.hid hbB
    clear hr hx hxm hkl hbB
    have HCF : Hid (∀ w', Below wr.heap.size wr w' → Calls Tryz.prog 38 #[.agg (enL t (.slice sp n cap) (.slice (some ⟨bq, off, none⟩) m cq)).toArray, .agg (bL x).toArray] w' fun e w'' => e = .returned (.bool (sZ d (pg x))) ∧ Below w'.heap.size w' w'') := fun w' hb => by
     have hw := KW.out.trans (hb.mono KW.out.size)
     have h := qA t sp n cap b (.slice (some ⟨bq, off, none⟩) m cq) x w' ((HP.out.below hw (Nat.le_refl _)).more hw.size) HOX.out (HDX.out.up hw (Nat.le_refl _))
     rw [HDD.out] at h
     exact h
    go_upto_region 7 with fail
    have HSN := Lib.hid (sJ d ((l.map pg).take k) (pg x))
    have HLN := Lib.hid (uM d ((l.map pg).take k))
    obtain ⟨B2, hB2⟩ : ∃ B2, B2 = wr.heap.size := ⟨_, rfl⟩
    have fW : Hid (Below B2 wr wr) := Below.refl _ _
    have HLE : Hid (w.heap.size < B2) := by show _ < _; omega
    have HLB : Hid (bq < B2) := by show _ < _; have := HBQ.out; omega
    have hBk : B2 ≤ wr.heap.size := Nat.le_of_eq hB2
    have HCV : Hid (∀ w', Below B2 wr w' → Calls Tryz.prog 38 #[.agg (enL t (.slice sp n cap) (.slice (some ⟨bq, off, none⟩) m cq)).toArray, .agg (bL x).toArray] w' fun e w'' => e = .returned (.bool (sZ d (pg x))) ∧ Below w'.heap.size w' w'') := by rw [hB2]; exact HCF.out
    have HB2L : Hid (wr.heap.size ≤ B2) := Nat.le_of_eq hB2.symm
    clear hB2 HCF cs
    cases hv : sZ d (pg x)
    ·rw [hv] at HSN HCV
     have FL : Hid (mW d ((l.map pg).take (k + 1)) = mW d ((l.map pg).take k)) := by show _ = _; rw [HTK.out]; exact HSN.out
     clear hv HSN
     refine wp_region_held_drew (S := fun w' => Below B2 wr w') (by kernel_rfl) fW.out.drew (fun hHeld => ?_)
     refine' zk 0 rfl (v := _) (yieldsIf_load_mid (by rfl) _ _ rfl _ _ rfl _ _ ?hS0n10 Tryz.underlying25 rfl (eN _ _ _)) ?rest0n10
     case hS0n10 =>
      intro w' hSw
      exact aP (L := enL t (.slice sp n cap) (.slice (some ⟨bq, off, none⟩) m cq)) ((hSw.block _ HLE.out).trans HER.out)
     try simp only [Act.put, zA, zB, zC, zD, zE, zF]
     refine zw 1 rfl (v := ?_) ?_ ?_; rotate_left
     ·intro w' hSw; go_simp; try with_reducible rfl
     try simp only [Act.put, zA, zB, zC, zD, zE, zF]
     refine zw 2 rfl (v := ?_) ?_ ?_; rotate_left
     ·intro w' hSw; have c2 := jS ((hSw.block _ HLE.out).trans HER.out); go_simp; try with_reducible rfl
     try simp only [Act.put, zA, zB, zC, zD, zE, zF]
     refine zw 3 rfl (v := ?_) ?_ ?_; rotate_left
     ·intro w' hSw; go_simp; try with_reducible rfl
     try simp only [Act.put, zA, zB, zC, zD, zE, zF]
     refine zw 4 rfl (v := ?_) ?_ ?_; rotate_left
     ·intro w' hSw; go_simp; try with_reducible rfl
     try simp only [Act.put, zA, zB, zC, zD, zE, zF]
     refine' zk 5 rfl (v := _) (yieldsIf_load_mid (by rfl) _ _ rfl _ _ rfl _ _ ?hS5n15 Tryz.underlying69 rfl HI.out) ?rest5n15
     case hS5n15 =>
      intro w' hSw
      exact aA HR.out hSw HLB.out
     try simp only [Act.put, zA, zB, zC, zD, zE, zF]
     refine zr 6 rfl (fun K hK => ?_)
     go_simp
     with_reducible refine (HCV.out _ fW.out.drew).mono ?_
     rintro e v1 ⟨rfl, hb⟩
     have dC : Hid (Below B2 wr v1) := (fW.out.drew).trans (hb.mono (by have := ((fW.out.drew)).size; have := hBk; omega))
     clear hb
     go_wp2_with fail
     refine hK.out _ _ dC.out (fun hHeld => ?_); clear hK K
     try simp only [Act.put, zA, zB, zC, zD, zE, zF]
     refine zd ?_ _
     go_wp2_with fail
     go_roundw
     case rel => exact ⟨k + 1, by omega, by go_num, by rw [FL.out]; exact HOW.out.below (dC.out.mono HB2L.out), HBR.out.trans (dC.out.mono (by have := HB2L.out; omega))⟩
     case measure => simp [intOf]; omega
    ·rw [hv] at HSN HCV
     have FL : Hid (mW d ((l.map pg).take (k + 1)) = mW d ((l.map pg).take k) ++ [idP (pg x)]) := by show _ = _; rw [HTK.out]; exact HSN.out
     clear hv HSN
     have HCI : Hid (∀ w', Calls Tryz.prog 35 #[.agg (sgP x).toArray] w' fun e w'' => e = .returned (.agg (dv (idP (pg x)))) ∧ Below w'.heap.size w' w'') := fun w' => jZ x.h x.r w' HOX.out
     have HYO := Lib.hid (gB (pg x))
     have HLK : Hid ((mW d ((l.map pg).take k)).length ≤ 1000000) := by show _ ≤ _; have := HLN.out; rw [List.length_take] at this; omega
     generalize idP (pg x) = y at *
     refine wp_region_held_drew (S := fun w' => Below B2 wr w') (by kernel_rfl) fW.out.drew (fun hHeld => ?_)
     refine' zk 0 rfl (v := _) (yieldsIf_load_mid (by rfl) _ _ rfl _ _ rfl _ _ ?hS0n16 Tryz.underlying25 rfl (eN _ _ _)) ?rest0n16
     case hS0n16 =>
      intro w' hSw
      exact aP (L := enL t (.slice sp n cap) (.slice (some ⟨bq, off, none⟩) m cq)) ((hSw.block _ HLE.out).trans HER.out)
     try simp only [Act.put, zA, zB, zC, zD, zE, zF]
     refine zw 1 rfl (v := ?_) ?_ ?_; rotate_left
     ·intro w' hSw; go_simp; try with_reducible rfl
     try simp only [Act.put, zA, zB, zC, zD, zE, zF]
     refine zw 2 rfl (v := ?_) ?_ ?_; rotate_left
     ·intro w' hSw; have c2 := jS ((hSw.block _ HLE.out).trans HER.out); go_simp; try with_reducible rfl
     try simp only [Act.put, zA, zB, zC, zD, zE, zF]
     refine zw 3 rfl (v := ?_) ?_ ?_; rotate_left
     ·intro w' hSw; go_simp; try with_reducible rfl
     try simp only [Act.put, zA, zB, zC, zD, zE, zF]
     refine zw 4 rfl (v := ?_) ?_ ?_; rotate_left
     ·intro w' hSw; go_simp; try with_reducible rfl
     try simp only [Act.put, zA, zB, zC, zD, zE, zF]
     refine' zk 5 rfl (v := _) (yieldsIf_load_mid (by rfl) _ _ rfl _ _ rfl _ _ ?hS5n21 Tryz.underlying69 rfl HI.out) ?rest5n21
     case hS5n21 =>
      intro w' hSw
      exact aA HR.out hSw HLB.out
     try simp only [Act.put, zA, zB, zC, zD, zE, zF]
     refine zr 6 rfl (fun K hK => ?_)
     go_simp
     with_reducible refine (HCV.out _ fW.out.drew).mono ?_
     rintro e v1 ⟨rfl, hb⟩
     have dC : Hid (Below B2 wr v1) := (fW.out.drew).trans (hb.mono (by have := ((fW.out.drew)).size; have := hBk; omega))
     clear hb
     go_wp2_with fail
     refine hK.out _ _ dC.out (fun hHeld => ?_); clear hK K
     try simp only [Act.put, zA, zB, zC, zD, zE, zF]
     refine zd ?_ _
     have HRV : Hid (v1.rangeAt bq (off + k * 20) (sgP x)) := nL (aA HR.out dC.out HLB.out)
     have cs := jS ((dC.out.block _ HLE.out).trans HER.out)
     have HOW3 := Lib.hid (HOW.out.below (dC.out.mono HB2L.out))
     have LH : Hid (Below B w1 v1) := HBR.out.trans (dC.out.mono (by have := HB2L.out; omega))
     have hsv := dC.out.size
     go_wp2_with (refine wpList_load_mid rfl 64 _ rfl bq (off + k * 20) rfl _ _ HRV.out Tryz.underlying64 rfl HIP.out ?_)
     refine (HCI.out _).mono ?_
     rintro e w6 ⟨rfl, hb⟩
     have HB6 := Lib.hid hb; clear hb HCI
     have hs6 := HB6.out.size
     have HO6 := Lib.hid (HOW3.out.below HB6.out)
     go_wp2_with (first
      | (refine bV rfl 32 1 [(0, .tmp 29)] rfl [(0, .agg (dv y))] rfl _ _ (zL _ y HYO.out) ?_; generalize hw7 : World.alloc w6 _ = w7; have hr7 : w7.rangeAt w6.heap.size 0 (y.map (Value.int .u8)) := (by rw [← hw7]; intro j v hv; rw [Nat.zero_add]; exact aG (heap_alloc_new w6 _) hv); have hb7 : Below w6.heap.size w6 w7 := (by rw [← hw7]; exact aB _ _); have HR7 := Lib.hid hr7; have HB7 := Lib.hid hb7; have HO7 := Lib.hid (HO6.out.below hb7); have hs7 := hb7.size; have hs7b : B ≤ w7.heap.size := (by omega); clear hw7 hr7 hb7)
      | (at_builtin; refine iM rfl (.tmp 22) (.tmp 30) rfl B _ _ _ rfl rfl HO7.out w6.heap.size y rfl HR7.out HYO.out HLK.out hs7b ?_; intro sp8 cap8 w8 HO8 HB8 HG8))
     go_roundw
     case rel => exact ⟨k + 1, by omega, by go_num, by rw [FL.out]; exact HO8, LH.out.trans ((HB6.out.mono (by omega)).trans ((HB7.out.mono (by omega)).trans HB8.out))⟩
     case measure => simp [intOf]; omega
   ·obtain rfl : k = m := by omega
    have hd1 : decide ((k : Int) < (k : Int)) = false := by simp
    have HTK : Hid ((l.map pg).take k = l.map pg) := by show _ = _; rw [List.take_of_length_le]; rw [List.length_map, HL.out.len]; omega
    rw [HTK.out] at HOW
    obtain ⟨sp', cap', rfl⟩ := aX HOW.out.1
    go_wp2_with fail
    go_ret
    exact ⟨sp', cap', by rw [yN.out]; rfl, by rw [yN.out]; exact HOW.out.base (Nat.le_of_lt hBW), KW.out⟩
end Go.Proofs.YtjeiiabpdoelpaaGreatDoor
