/-
  Envelopes: the walks of the reference's verifies and Signers.
-/
import Derived.Test.YtcligodahogpkaaGreatDoorZip
import Derived.Test.YtcligodahogpkaaGreatDoorEnvL
import Derived.Test.YtcligodahogpkaaGreatDoorH4
set_option maxRecDepth 100000
set_option maxHeartbeats 8000000
namespace Go.Proofs.YtcligodahogpkaaGreatDoor
open Go.RowKit Go.Proofs.YtcligodahogpkaaGreatDoor.One
theorem kU (t : ByteArray) (sp : Option Addr) (n cap : Nat) (b : List UInt8) (s : Value) (x : Sg) (w : World) (hp : BSrc w w.heap.size sp n cap b) (hx : OkG x) (hd : SgD w w.heap.size x) :
 Calls Tryz.prog 32 #[.agg (enA t (.slice sp n cap) s), .agg (bB x).toArray] w fun e w' => e = .returned (.bool (nI (eI t b) (pg x))) ∧ Below w.heap.size w w' := by
 have HP := zh hp; have HX := zh hx; have HD := zh hd
 have HV := zh (AQ hd (eI t b))
 have HMO := zh (gG t b)
 have HEN := zh (heap_alloc_new w (.cells (enA t (.slice sp n cap) s) 25))
 clear hp hx hd
 have HIP := zh (eX HX.out); have HIS := zh (oV x)
 go_enter Tryz.func32, Tryz.ntmps32
 go_upto_region 1 with fail
 generalize hwz : World.alloc w _ = wz
 generalize hw0 : World.alloc wz _ = w0
 have HEz : Hid (wz.heap[w.heap.size]? = some (.cells (enA t (.slice sp n cap) s) 25 (0, 0))) := by rw [← hwz]; exact HEN.out
 have HBz : Hid (Below w.heap.size w wz) := by rw [← hwz]; exact (Below.refl _ _).alloc (Nat.le_refl _) _
 have HSz : Hid (wz.heap.size = w.heap.size + 1) := by show _ = _; rw [← hwz]; simp
 have HG0 : Hid (GB w0 (w.heap.size + 1) x) := by have h := GB.new wz x; rw [HSz.out] at h; rw [← hw0]; exact h
 have wI : Hid (Below wz.heap.size wz w0) := by rw [← hw0]; exact (Below.refl _ _).alloc (Nat.le_refl _) _
 have HS0 : Hid (w0.heap.size = w.heap.size + 2) := by show _ = _; rw [← hw0, World.size_alloc, HSz.out]
 have HE0 : Hid (w0.heap[w.heap.size]? = some (.cells (enA t (.slice sp n cap) s) 25 (0, 0))) := (wI.out.block _ (by have := HSz.out; omega)).trans HEz.out
 have HB0 : Hid (Below w.heap.size w w0) := HBz.out.trans (wI.out.mono (by have := HSz.out; omega))
 clear hwz hw0 HEN HEz HBz wI HSz
 obtain ⟨B, hBe⟩ : ∃ B, B = w0.heap.size := ⟨_, rfl⟩
 have jQ : Hid (Below B w0 w0) := Below.refl _ _
 have HLT : Hid (w.heap.size < B ∧ w.heap.size + 1 < B) := ⟨by have := HS0.out; omega, by have := HS0.out; omega⟩
 have hBk : B ≤ w0.heap.size := Nat.le_of_eq hBe
 clear hBe
 have PS : Hid (∀ w', Below B w0 w' → Below w.heap.size w w') := fun w' hb => HB0.out.trans (hb.mono (Nat.le_of_lt HLT.out.1))
 have HCM : Hid (∀ w', Below B w0 w' → Calls Tryz.prog 52 #[.string t, .slice sp n cap] w' fun e w'' => e = .returned (.agg (dgA (eI t b))) ∧ Below w'.heap.size w' w'') := fun w' hb => mQ t sp n cap b w' ((HP.out.below (PS.out _ hb) (Nat.le_refl _)).more (PS.out _ hb).size)
 have HCV : Hid (∀ w', Below B w0 w' → Calls Tryz.prog 66 #[.agg (sgP x).toArray, .agg (dgA (eI t b)), .agg (sgS x).toArray] w' fun e w'' => e = .returned (.bool (nI (eI t b) (pg x))) ∧ Below w'.heap.size w' w'') := fun w' hb => by
  have h := uW x.h x.r (eI t b) x.a x.sp x.n x.c x.sq x.m x.d x.l x.q w' HX.out HMO.out (HD.out.up (PS.out _ hb) (Nat.le_refl _)).c (HD.out.up (PS.out _ hb) (Nat.le_refl _)).p
  rw [HV.out] at h
  exact h
 clear HV HMO HP HD
 generalize dgA (eI t b) = M at *
 refine wp_region_held_drew (S := fun w' => Below B w0 w') (by kernel_rfl) jQ.out.drew (fun hHeld => ?_)
 refine zv 0 rfl ?_
 refine' zk 1 rfl (v := _) (yieldsIf_load_mid (by rfl) _ _ rfl _ _ rfl _ _ ?hS1n2 Tryz.underlying56 rfl HIP.out) ?rest1n2
 case hS1n2 =>
  intro w' hSw
  exact aA HG0.out.p hSw HLT.out.2
 try simp only [Act.put, zA, zB, zC, zD, zE, zF]
 refine zv 2 rfl ?_
 refine zx 3 rfl (v := ?_) ?_ ?_; rotate_left
 ·intro w' hSw; have c0 := vS ((hSw.block _ HLT.out.1).trans HE0.out); go_simp; try with_reducible rfl
 refine zv 4 rfl ?_
 refine zx 5 rfl (v := ?_) ?_ ?_; rotate_left
 ·intro w' hSw; have c1 := mH ((hSw.block _ HLT.out.1).trans HE0.out); go_simp; try with_reducible rfl
 refine zv 7 rfl ?_
 refine' zk 8 rfl (v := _) (yieldsIf_load_mid (by rfl) _ _ rfl _ _ rfl _ _ ?hS8n8 Tryz.underlying60 rfl HIS.out) ?rest8n8
 case hS8n8 =>
  intro w' hSw
  exact aA (HG0.out.s HX.out) hSw HLT.out.2
 try simp only [Act.put, zA, zB, zC, zD, zE, zF]
 refine zr 6 rfl (fun K hK => ?_)
 go_simp
 with_reducible refine (HCM.out _ jQ.out.drew).mono ?_
 rintro e v1 ⟨rfl, hb⟩
 have eN : Hid (Below B w0 v1) := (jQ.out.drew).trans (hb.mono (by have := ((jQ.out.drew)).size; have := hBk; omega))
 clear hb
 go_wp2_with fail
 refine hK.out _ _ eN.out fun _ => ?_; clear hK K
 try simp only [Act.put, zA, zB, zC, zD, zE, zF]
 refine zr 9 rfl (fun K hK => ?_)
 go_simp
 with_reducible refine (HCV.out _ eN.out).mono ?_
 rintro e v2 ⟨rfl, hb⟩
 have jB : Hid (Below B w0 v2) := eN.out.trans (hb.mono (by have := (eN.out).size; have := hBk; omega))
 clear hb
 go_wp2_with fail
 refine hK.out _ _ jB.out fun _ => ?_; clear hK K
 try simp only [Act.put, zA, zB, zC, zD, zE, zF]
 refine zv 10 rfl ?_
 refine zd ?_ _
 go_wp2_with fail
 go_ret
 exact ⟨rfl, PS.out _ jB.out⟩
end Go.Proofs.YtcligodahogpkaaGreatDoor
