/-
  The walks of the reference's Short, Instant and Valid of records (condition: the record stands in memory, within the statements' bounds).
-/
import Derived.Test.YtecllfbadciaoaaGreatDoorZip
import Derived.Test.YtecllfbadciaoaaGreatDoorQ20
set_option maxRecDepth 100000
set_option maxHeartbeats 8000000
namespace Go.Proofs.YtecllfbadciaoaaGreatDoor
open Go.RowKit
theorem instant_any (t : Int) (w : World) :
 Calls Tryz.prog 53 #[.int .i64 t] w fun e w' => e = .returned (.bool (decide (0 ≤ t) && decide (t ≤ 1099511627776))) ∧ w = w' := by
 obtain ⟨b1, h1⟩ : ∃ b, decide (0 ≤ t) = b := ⟨_, rfl⟩
 have h1' : decide (t ≥ 0) = b1 := h1
 obtain ⟨b2, h2⟩ : ∃ b, decide (t ≤ 1099511627776) = b := ⟨_, rfl⟩
 rw [h1, h2]
 cases b1
 all_goals
  go_enter Tryz.func53, Tryz.ntmps53
  go_wp2_with fail
  go_ret
  exact ⟨rfl, rfl⟩
theorem short_any (sp : Option Addr) (n cap : Nat) (l : List ByteArray) (w : World) (hl : StrsIn w w.heap.size sp n l) (hmax : n ≤ 1000) :
 Calls Tryz.prog 54 #[.slice sp n cap] w fun e w' => e = .returned (.bool (cmdB l)) ∧ w = w' := by
 have HL := zh hl
 have HX : Hid (cmdB l = (decide (n ≤ 16) && !l.any lng2)) := by show _ = _; unfold cmdB; rw [hl.len]
 clear hl
 go_enter Tryz.func54, Tryz.ntmps54
 go_wp2_with fail
 go_loopw [3] (fun i wr => ∃ k : Nat, k ≤ n ∧ i = .int .i64 k ∧ Hid ((l.take k).any lng2 = false) ∧ wr = w) (fun i _ => n - (intOf i).toNat)
 case atStart => exact ⟨0, by omega, rfl, by show _ = false; simp, rfl⟩
 case round =>
  obtain ⟨k, hk, rfl, HA, rfl⟩ := hrel
  by_cases hlt : k < n
  ·have hd : decide ((k : Int) < (n : Int)) = true := by simp; omega
   obtain ⟨b, off, rfl, hb, hcell⟩ := HL.out.cells (by omega)
   have hk2 : k < l.length := by have := HL.out.len; omega
   have ck := hcell k hk2
   have p1 : (0 : Int) ≤ (k : Int) := by omega
   have p2 : (k : Int) < (n : Int) := by omega
   clear hcell
   have HN := zh (cmd_take_succ l k hk2 HA.out)
   have HY := zh (cmd_any l k hk2)
   generalize l[k] = s at *
   by_cases h200 : 200 < s.size
   ·have hd2 : decide ((s.size : Int) > 200) = true := by simp; omega
    have HNO : Hid (cmdB l = false) := by show _ = _; rw [HX.out, HY.out (by unfold lng2; exact decide_eq_true h200)]; simp
    clear HN HY
    go_wp2_with fail
    go_ret
    exact ⟨by rw [HNO.out]; rfl, rfl⟩
   ·have hd2 : decide ((s.size : Int) > 200) = false := by simp; omega
    have HN2 := zh (HN.out (by unfold lng2; exact decide_eq_false h200))
    clear HN HY
    go_wp2_with fail
    go_roundw
    case rel => exact ⟨k + 1, by omega, by go_num, HN2.out, by first | rfl | exact trivial⟩
    case measure => simp [intOf]; omega
  ·obtain rfl : k = n := by omega
   have hd : decide ((k : Int) < (k : Int)) = false := by simp
   have HY : Hid (cmdB l = decide ((k : Int) ≤ 16)) := by
    show _ = _
    have h := HA.out
    rw [List.take_of_length_le (by rw [HL.out.len]; exact Nat.le_refl _)] at h
    rw [HX.out, h, Bool.not_false, Bool.and_true]
    exact decide_eq_decide.2 ⟨fun h => by omega, fun h => by omega⟩
   go_wp2_with fail
   go_ret
   exact ⟨by rw [HY.out]; rfl, by first | rfl | exact trivial⟩
theorem rvalidR_any (x0 : Rc) (w : World) (hx : RcIn x0 w) :
 Calls Tryz.prog 22 #[.agg x0.L.toArray] w fun e w' => e = .returned (.bool (rcB x0)) ∧ Below w.heap.size w w' := by
 have HX := zh (RcBox.new hx)
 have HBD := zh hx.b; have HSD := zh hx.s
 clear hx
 have HN1 := zh (fun w => refName_any x0.run w HBD.out.1)
 have HN2 := zh (fun w => refName_any x0.stp w HBD.out.2.2.1)
 have HSC := zh (fun w => refScope_any x0.scp w (by have := HBD.out.2.1; omega))
 have HIN := zh (fun w => instant_any x0.t w)
 have HRB : Hid (rcB x0 = ((nmB x0.run.data.toList && scpB x0.scp && nmB x0.stp.data.toList) && ((decide (0 ≤ x0.t) && decide (x0.t ≤ 1099511627776)) && (cmdB x0.c && (envB x0.v && (vldE x0.m && vldE x0.p)))))) := rfl
 generalize rcB x0 = RB at *
 generalize nmB x0.run.data.toList = N1 at *
 generalize nmB x0.stp.data.toList = N2 at *
 generalize scpB x0.scp = SC at *
 generalize (decide (0 ≤ x0.t) && decide (x0.t ≤ 1099511627776)) = RT at *
 go_enter Tryz.func22, Tryz.ntmps22
 go_upto_region 1 with fail
 generalize hw0 : World.alloc w _ = w0
 have HB0 : Hid (RcBox x0 w w0) := by rw [← hw0]; exact HX.out
 clear hw0 HX
 have c0 := HB0.out.c0; have c1 := HB0.out.c1
 go_wp2_with fail
 refine (HN1.out _).mono ?_
 rintro e w' ⟨rfl, rfl⟩
 cases N1
 ·clear c1
  go_wp2_with fail
  go_ret
  exact ⟨by rw [HRB.out]; rfl, HB0.out.b⟩
 go_wp2_with fail
 refine (HSC.out _).mono ?_
 rintro e w1 ⟨rfl, hb⟩
 have HB1 : Hid (RcBox x0 w w1) := HB0.out.below hb
 clear hb HB0 c0 c1
 cases SC
 ·go_wp2_with fail
  go_ret
  exact ⟨by rw [HRB.out]; rfl, HB1.out.b⟩
 have c2 := HB1.out.c2; have c3 := HB1.out.c3; have c4 := HB1.out.c4; have c5 := HB1.out.c5
 go_wp2_with fail
 refine (HN2.out _).mono ?_
 rintro e w' ⟨rfl, rfl⟩
 cases N2
 ·go_wp2_with fail
  go_ret
  exact ⟨by rw [HRB.out]; rfl, HB1.out.b⟩
 go_wp2_with fail
 refine (HIN.out _).mono ?_
 rintro e w' ⟨rfl, rfl⟩
 cases RT
 ·go_wp2_with fail
  go_ret
  exact ⟨by rw [HRB.out]; rfl, HB1.out.b⟩
 have HC4 := zh (short_any x0.c1 x0.cn x0.cc x0.c w1 HB1.out.i.c HBD.out.2.2.2.1)
 generalize cmdB x0.c = R4 at *
 go_wp2_with fail
 refine HC4.out.mono ?_
 rintro e w' ⟨rfl, rfl⟩
 cases R4
 ·go_wp2_with fail
  go_ret
  exact ⟨by rw [HRB.out]; rfl, HB1.out.b⟩
 clear HC4 c2 c3 c4 HN1 HN2 HSC HIN
 have HL := zh HB1.out.i.v
 have HEN : Hid (envB x0.v = (decide (x0.vn ≤ 16) && vAll x0.v)) := by show _ = _; unfold envB; rw [HL.out.len]
 have HC6 := zh (fun w' (h : RcIn x0 w') => refValid_any x0.m1 x0.mn x0.mc x0.m w' h.m (by have := HBD.out.2.2.2.2.2.1; omega))
 have HC7 := zh (fun w' (h : RcIn x0 w') => refValid_any x0.p1 x0.pn x0.pc x0.p w' h.p (by have := HBD.out.2.2.2.2.2.2; omega))
 generalize vldE x0.m = R6 at *
 generalize vldE x0.p = R7 at *
 by_cases h16 : 16 < x0.vn
 ·have hd : decide ((x0.vn : Int) > 16) = true := by simp; omega
  rw [decide_eq_false (by omega), Bool.false_and] at HEN
  rw [HEN.out] at HRB
  go_wp2_with fail
  go_ret
  exact ⟨by rw [HRB.out]; rfl, HB1.out.b⟩
 have hd : decide ((x0.vn : Int) > 16) = false := by simp; omega
 rw [decide_eq_true (by omega), Bool.true_and] at HEN
 rw [HEN.out] at HRB
 clear HEN
 go_wp2_with fail
 clear hd c5
 go_loopw [3] (fun i wr => ∃ k : Nat, k ≤ x0.vn ∧ i = .int .i64 k ∧ Hid (∀ j, j < k → vAt x0.v j = true) ∧ Hid (RcBox x0 w wr)) (fun i _ => x0.vn - (intOf i).toNat)
 case atStart => exact ⟨0, Nat.zero_le _, rfl, fun j hj => absurd hj (by omega), HB1.out⟩
 case round =>
  clear HB1 HL
  obtain ⟨k, hk, rfl, HA, HB⟩ := hrel
  have HL := zh HB.out.i.v
  by_cases hlt : k < x0.vn
  ·have hd : decide ((k : Int) < (x0.vn : Int)) = true := by simp; omega
   obtain ⟨b, off, hv1, hbB, hcap, hr⟩ := HL.out.cells (by omega)
   have hkl : k < x0.v.length := by rw [HL.out.len]; exact hlt
   obtain ⟨x, hx⟩ : ∃ x, x0.v[k]? = some x := ⟨x0.v[k], List.getElem?_eq_getElem hkl⟩
   have p1 : (0 : Int) ≤ (k : Int) := by omega
   have p2 : (k : Int) < (x0.vn : Int) := by omega
   have q1 : IntKind.i64.wrap (k : Int) = (k : Int) := IntWalk.i64_in _ (by have := HBD.out.2.2.2.2.1; omega)
   obtain ⟨B, hBe⟩ : ∃ B, B = wr.heap.size := ⟨_, rfl⟩
   have HSwr : Hid (Blks B wr wr []) := Blks.start (Below.refl _ _) (Nat.le_of_eq hBe)
   have HBe := zh hBe
   have hbB' : b < B := by omega
   have HPC : Hid (∀ w', Below B wr w' → ∀ (i : Nat) (y : Vr), x0.v[i]? = some y → w'.cell? ⟨b, off + i * 2, none⟩ = some (.string y.n) ∧ w'.cell? ⟨b, off + i * 2 + 1, none⟩ = some (.string y.v)) := fun w' hb i y hy =>
    ⟨(hb.cell (p := ⟨b, off + i * 2, none⟩) hbB').trans (hr i y hy 0 _ rfl), (hb.cell (p := ⟨b, off + i * 2 + 1, none⟩) hbB').trans (hr i y hy 1 _ rfl)⟩
   have hxm := List.mem_of_getElem? hx
   have HCN : Hid (∀ w', Below B wr w' → Calls Tryz.prog 51 #[.string x.n] w' fun e w'' => e = .returned (.bool (nmB x.n.data.toList)) ∧ Below w'.heap.size w' w'') := fun w' _ => (refName_any x.n w' (HSD.out.2 x hxm).1).mono fun e w'' h => ⟨h.1, h.2 ▸ Below.refl _ _⟩
   have HBAD := zh (vAt_bad hx)
   have HNO0 : Hid (vAt x0.v k = false → RB = false) := fun h => by rw [HRB.out, vAll_no hkl h]; rfl
   have HXX := zh hx; have HV1 := zh hv1
   have hc5 : ∀ w', RcBox x0 w w' → w'.cell? ⟨w.heap.size, 5, none⟩ = some (.slice (some ⟨b, off, none⟩) x0.vn x0.vc) := fun w' h => by rw [← HV1.out]; exact h.c5
   have HC5 := zh hc5
   have hkln := hkl
   clear hBe hbB' hxm hr hx hkl hv1 hbB hcap hc5
   have c5 := HC5.out wr HB.out
   go_wp2_with fail
   clear c5
   cases hnm : nmB x.n.data.toList
   ·have HNO := zh (HNO0.out (HBAD.out (.inl hnm)))
    rw [hnm] at HCN
    clear hnm HNO0 HBAD
    refine wp_region_held_drew (S := fun w' => Below B wr w') (by kernel_rfl) HSwr.out.b.drew (fun hHeld => ?_)
    refine zv 0 rfl ?_
    refine zw 1 rfl (v := ?_) ?_ ?_; rotate_left
    ·intro w' hSw
     have k0 := HC5.out w' (RcBox.below HB.out (show Below wr.heap.size wr w' from by rw [← HBe.out]; exact hSw))
     go_simp
     try with_reducible rfl
    try simp only [Act.put, zuA, zuB, zuC, zuD, zuY, zuF]
    refine zv 2 rfl ?_
    refine zv 3 rfl ?_
    refine zv 4 rfl ?_
    refine zx 5 rfl (v := ?_) ?_ ?_; rotate_left
    ·intro w' hSw; have k1 := (HPC.out w' hSw k x HXX.out).1; go_simp; try with_reducible rfl
    refine zr 6 rfl (fun K hK => ?_)
    go_simp
    with_reducible refine (HCN.out _ (HSwr.out.drew).b).mono ?_
    rintro e v1 ⟨rfl, hb⟩
    have HSv1 := zh (HSwr.out.call ((Below.refl _ _).drew.trans hb))
    clear hb
    go_wp2_with fail
    refine hK.out _ _ HSv1.out.b fun _ => ?_; clear hK K
    refine zv 7 rfl ?_
    refine zv 8 rfl ?_
    refine zk 9 rfl (v := undef) (.inr ⟨by rfl, rfl⟩) ?_; try simp only [Act.put, zuA, zuB, zuC, zuD, zuY, zuF]
    refine zk 10 rfl (v := undef) (.inr ⟨by rfl, rfl⟩) ?_; try simp only [Act.put, zuA, zuB, zuC, zuD, zuY, zuF]
    refine zk 11 rfl (v := undef) (.inr ⟨by rfl, rfl⟩) ?_; try simp only [Act.put, zuA, zuB, zuC, zuD, zuY, zuF]
    refine zk 12 rfl (v := undef) (.inr ⟨by rfl, rfl⟩) ?_; try simp only [Act.put, zuA, zuB, zuC, zuD, zuY, zuF]
    refine zk 13 rfl (v := undef) (.inr ⟨by rfl, rfl⟩) ?_; try simp only [Act.put, zuA, zuB, zuC, zuD, zuY, zuF]
    refine zk 14 rfl (v := undef) (.inr ⟨by rfl, rfl⟩) ?_; try simp only [Act.put, zuA, zuB, zuC, zuD, zuY, zuF]
    refine zk 15 rfl (v := undef) (.inr ⟨by rfl, rfl⟩) ?_; try simp only [Act.put, zuA, zuB, zuC, zuD, zuY, zuF]
    refine zk 16 rfl (v := undef) (.inr ⟨by rfl, rfl⟩) ?_; try simp only [Act.put, zuA, zuB, zuC, zuD, zuY, zuF]
    refine zv 17 rfl ?_
    refine zv 18 rfl ?_
    refine zk 19 rfl (v := undef) (.inr ⟨by rfl, rfl⟩) ?_; try simp only [Act.put, zuA, zuB, zuC, zuD, zuY, zuF]
    refine zk 20 rfl (v := undef) (.inr ⟨by rfl, rfl⟩) ?_; try simp only [Act.put, zuA, zuB, zuC, zuD, zuY, zuF]
    refine zk 21 rfl (v := undef) (.inr ⟨by rfl, rfl⟩) ?_; try simp only [Act.put, zuA, zuB, zuC, zuD, zuY, zuF]
    refine zk 22 rfl (v := undef) (.inr ⟨by rfl, rfl⟩) ?_; try simp only [Act.put, zuA, zuB, zuC, zuD, zuY, zuF]
    refine zk 23 rfl (v := undef) (.inr ⟨by rfl, rfl⟩) ?_; try simp only [Act.put, zuA, zuB, zuC, zuD, zuY, zuF]
    refine zk 24 rfl (v := undef) (.inr ⟨by rfl, rfl⟩) ?_; try simp only [Act.put, zuA, zuB, zuC, zuD, zuY, zuF]
    refine zk 25 rfl (v := undef) (.inr ⟨by rfl, rfl⟩) ?_; try simp only [Act.put, zuA, zuB, zuC, zuD, zuY, zuF]
    refine zk 26 rfl (v := undef) (.inr ⟨by rfl, rfl⟩) ?_; try simp only [Act.put, zuA, zuB, zuC, zuD, zuY, zuF]
    refine zk 27 rfl (v := undef) (.inr ⟨by rfl, rfl⟩) ?_; try simp only [Act.put, zuA, zuB, zuC, zuD, zuY, zuF]
    refine zk 28 rfl (v := undef) (.inr ⟨by rfl, rfl⟩) ?_; try simp only [Act.put, zuA, zuB, zuC, zuD, zuY, zuF]
    refine zk 29 rfl (v := undef) (.inr ⟨by rfl, rfl⟩) ?_; try simp only [Act.put, zuA, zuB, zuC, zuD, zuY, zuF]
    refine zk 30 rfl (v := undef) (.inr ⟨by rfl, rfl⟩) ?_; try simp only [Act.put, zuA, zuB, zuC, zuD, zuY, zuF]
    refine zk 31 rfl (v := undef) (.inr ⟨by rfl, rfl⟩) ?_; try simp only [Act.put, zuA, zuB, zuC, zuD, zuY, zuF]
    refine zk 32 rfl (v := undef) (.inr ⟨by rfl, rfl⟩) ?_; try simp only [Act.put, zuA, zuB, zuC, zuD, zuY, zuF]
    refine zk 33 rfl (v := undef) (.inr ⟨by rfl, rfl⟩) ?_; try simp only [Act.put, zuA, zuB, zuC, zuD, zuY, zuF]
    refine zk 34 rfl (v := undef) (.inr ⟨by rfl, rfl⟩) ?_; try simp only [Act.put, zuA, zuB, zuC, zuD, zuY, zuF]
    refine zk 35 rfl (v := undef) (.inr ⟨by rfl, rfl⟩) ?_; try simp only [Act.put, zuA, zuB, zuC, zuD, zuY, zuF]
    refine zk 36 rfl (v := undef) (.inr ⟨by rfl, rfl⟩) ?_; try simp only [Act.put, zuA, zuB, zuC, zuD, zuY, zuF]
    refine zv 37 rfl ?_
    refine zd ?_ _
    go_wp2_with fail
    go_ret
    exact ⟨by rw [HNO.out]; rfl, (RcBox.below HB.out (show Below wr.heap.size wr v1 from by rw [← HBe.out]; exact HSv1.out.b)).b⟩
   ·rw [hnm] at HCN
    by_cases h200 : 200 < x.v.size
    ·have hd2 : decide ((x.v.size : Int) > 200) = true := by simp; omega
     have HNO := zh (HNO0.out (HBAD.out (.inr (by unfold lng2; exact decide_eq_true h200))))
     clear hnm h200 HNO0 HBAD
     refine wp_region_held_drew (S := fun w' => Below B wr w') (by kernel_rfl) HSwr.out.b.drew (fun hHeld => ?_)
     refine zv 0 rfl ?_
     refine zw 1 rfl (v := ?_) ?_ ?_; rotate_left
     ·intro w' hSw
      have k0 := HC5.out w' (RcBox.below HB.out (show Below wr.heap.size wr w' from by rw [← HBe.out]; exact hSw))
      go_simp
      try with_reducible rfl
     try simp only [Act.put, zuA, zuB, zuC, zuD, zuY, zuF]
     refine zv 2 rfl ?_
     refine zv 3 rfl ?_
     refine zv 4 rfl ?_
     refine zx 5 rfl (v := ?_) ?_ ?_; rotate_left
     ·intro w' hSw; have k1 := (HPC.out w' hSw k x HXX.out).1; go_simp; try with_reducible rfl
     refine zr 6 rfl (fun K hK => ?_)
     go_simp
     with_reducible refine (HCN.out _ (HSwr.out.drew).b).mono ?_
     rintro e v1 ⟨rfl, hb⟩
     have HSv1 := zh (HSwr.out.call ((Below.refl _ _).drew.trans hb))
     clear hb
     go_wp2_with fail
     refine hK.out _ _ HSv1.out.b fun _ => ?_; clear hK K
     refine zv 7 rfl ?_
     refine zv 8 rfl ?_
     refine zv 9 rfl ?_
     refine zw 10 rfl (v := ?_) ?_ ?_; rotate_left
     ·intro w' hSw
      have k0 := HC5.out w' (RcBox.below HB.out (show Below wr.heap.size wr w' from by rw [← HBe.out]; exact hSw))
      go_simp
      try with_reducible rfl
     try simp only [Act.put, zuA, zuB, zuC, zuD, zuY, zuF]
     refine zv 11 rfl ?_
     refine zv 12 rfl ?_
     refine zv 13 rfl ?_
     refine zx 14 rfl (v := ?_) ?_ ?_; rotate_left
     ·intro w' hSw; have k1 := (HPC.out w' hSw k x HXX.out).2; go_simp; try with_reducible rfl
     refine zv 15 rfl ?_
     refine zv 16 rfl ?_
     refine zv 17 rfl ?_
     refine zv 18 rfl ?_
     refine zk 19 rfl (v := undef) (.inr ⟨by rfl, rfl⟩) ?_; try simp only [Act.put, zuA, zuB, zuC, zuD, zuY, zuF]
     refine zk 20 rfl (v := undef) (.inr ⟨by rfl, rfl⟩) ?_; try simp only [Act.put, zuA, zuB, zuC, zuD, zuY, zuF]
     refine zk 21 rfl (v := undef) (.inr ⟨by rfl, rfl⟩) ?_; try simp only [Act.put, zuA, zuB, zuC, zuD, zuY, zuF]
     refine zk 22 rfl (v := undef) (.inr ⟨by rfl, rfl⟩) ?_; try simp only [Act.put, zuA, zuB, zuC, zuD, zuY, zuF]
     refine zk 23 rfl (v := undef) (.inr ⟨by rfl, rfl⟩) ?_; try simp only [Act.put, zuA, zuB, zuC, zuD, zuY, zuF]
     refine zk 24 rfl (v := undef) (.inr ⟨by rfl, rfl⟩) ?_; try simp only [Act.put, zuA, zuB, zuC, zuD, zuY, zuF]
     refine zk 25 rfl (v := undef) (.inr ⟨by rfl, rfl⟩) ?_; try simp only [Act.put, zuA, zuB, zuC, zuD, zuY, zuF]
     refine zk 26 rfl (v := undef) (.inr ⟨by rfl, rfl⟩) ?_; try simp only [Act.put, zuA, zuB, zuC, zuD, zuY, zuF]
     refine zk 27 rfl (v := undef) (.inr ⟨by rfl, rfl⟩) ?_; try simp only [Act.put, zuA, zuB, zuC, zuD, zuY, zuF]
     refine zk 28 rfl (v := undef) (.inr ⟨by rfl, rfl⟩) ?_; try simp only [Act.put, zuA, zuB, zuC, zuD, zuY, zuF]
     refine zk 29 rfl (v := undef) (.inr ⟨by rfl, rfl⟩) ?_; try simp only [Act.put, zuA, zuB, zuC, zuD, zuY, zuF]
     refine zk 30 rfl (v := undef) (.inr ⟨by rfl, rfl⟩) ?_; try simp only [Act.put, zuA, zuB, zuC, zuD, zuY, zuF]
     refine zk 31 rfl (v := undef) (.inr ⟨by rfl, rfl⟩) ?_; try simp only [Act.put, zuA, zuB, zuC, zuD, zuY, zuF]
     refine zk 32 rfl (v := undef) (.inr ⟨by rfl, rfl⟩) ?_; try simp only [Act.put, zuA, zuB, zuC, zuD, zuY, zuF]
     refine zk 33 rfl (v := undef) (.inr ⟨by rfl, rfl⟩) ?_; try simp only [Act.put, zuA, zuB, zuC, zuD, zuY, zuF]
     refine zk 34 rfl (v := undef) (.inr ⟨by rfl, rfl⟩) ?_; try simp only [Act.put, zuA, zuB, zuC, zuD, zuY, zuF]
     refine zk 35 rfl (v := undef) (.inr ⟨by rfl, rfl⟩) ?_; try simp only [Act.put, zuA, zuB, zuC, zuD, zuY, zuF]
     refine zk 36 rfl (v := undef) (.inr ⟨by rfl, rfl⟩) ?_; try simp only [Act.put, zuA, zuB, zuC, zuD, zuY, zuF]
     refine zv 37 rfl ?_
     refine zd ?_ _
     go_wp2_with fail
     go_ret
     exact ⟨by rw [HNO.out]; rfl, (RcBox.below HB.out (show Below wr.heap.size wr v1 from by rw [← HBe.out]; exact HSv1.out.b)).b⟩
    ·have hd2 : decide ((x.v.size : Int) > 200) = false := by simp; omega
     have hlg : lng2 x.v = false := by unfold lng2; exact decide_eq_false h200
     rcases k with _ | m
     ·have HYE : Hid (vAt x0.v 0 = true) := by show _ = _; rw [vAt_zero HXX.out, hnm, hlg]; rfl
      clear hnm hlg HNO0 HBAD h200
      refine wp_region_held_drew (S := fun w' => Below B wr w') (by kernel_rfl) HSwr.out.b.drew (fun hHeld => ?_)
      refine zv 0 rfl ?_
      refine zw 1 rfl (v := ?_) ?_ ?_; rotate_left
      ·intro w' hSw
       have k0 := HC5.out w' (RcBox.below HB.out (show Below wr.heap.size wr w' from by rw [← HBe.out]; exact hSw))
       go_simp
       try with_reducible rfl
      try simp only [Act.put, zuA, zuB, zuC, zuD, zuY, zuF]
      refine zv 2 rfl ?_
      refine zv 3 rfl ?_
      refine zv 4 rfl ?_
      refine zx 5 rfl (v := ?_) ?_ ?_; rotate_left
      ·intro w' hSw; have k1 : w'.cell? ⟨b, off, none⟩ = some (.string x.n) := (HPC.out w' hSw 0 x HXX.out).1; go_simp; try with_reducible rfl
      refine zr 6 rfl (fun K hK => ?_)
      go_simp
      with_reducible refine (HCN.out _ (HSwr.out.drew).b).mono ?_
      rintro e v1 ⟨rfl, hb⟩
      have HSv1 := zh (HSwr.out.call ((Below.refl _ _).drew.trans hb))
      clear hb
      go_wp2_with fail
      refine hK.out _ _ HSv1.out.b fun _ => ?_; clear hK K
      refine zv 7 rfl ?_
      refine zv 8 rfl ?_
      refine zv 9 rfl ?_
      refine zw 10 rfl (v := ?_) ?_ ?_; rotate_left
      ·intro w' hSw
       have k0 := HC5.out w' (RcBox.below HB.out (show Below wr.heap.size wr w' from by rw [← HBe.out]; exact hSw))
       go_simp
       try with_reducible rfl
      try simp only [Act.put, zuA, zuB, zuC, zuD, zuY, zuF]
      refine zv 11 rfl ?_
      refine zv 12 rfl ?_
      refine zv 13 rfl ?_
      refine zx 14 rfl (v := ?_) ?_ ?_; rotate_left
      ·intro w' hSw; have k1 : w'.cell? ⟨b, off + 1, none⟩ = some (.string x.v) := (HPC.out w' hSw 0 x HXX.out).2; go_simp; try with_reducible rfl
      refine zv 15 rfl ?_
      refine zv 16 rfl ?_
      refine zv 17 rfl ?_
      refine zv 18 rfl ?_
      refine zv 19 rfl ?_
      refine zv 20 rfl ?_
      refine zv 21 rfl ?_
      refine zk 22 rfl (v := undef) (.inr ⟨by rfl, rfl⟩) ?_; try simp only [Act.put, zuA, zuB, zuC, zuD, zuY, zuF]
      refine zk 23 rfl (v := undef) (.inr ⟨by rfl, rfl⟩) ?_; try simp only [Act.put, zuA, zuB, zuC, zuD, zuY, zuF]
      refine zk 24 rfl (v := undef) (.inr ⟨by rfl, rfl⟩) ?_; try simp only [Act.put, zuA, zuB, zuC, zuD, zuY, zuF]
      refine zk 25 rfl (v := undef) (.inr ⟨by rfl, rfl⟩) ?_; try simp only [Act.put, zuA, zuB, zuC, zuD, zuY, zuF]
      refine zk 26 rfl (v := undef) (.inr ⟨by rfl, rfl⟩) ?_; try simp only [Act.put, zuA, zuB, zuC, zuD, zuY, zuF]
      refine zk 27 rfl (v := undef) (.inr ⟨by rfl, rfl⟩) ?_; try simp only [Act.put, zuA, zuB, zuC, zuD, zuY, zuF]
      refine zk 28 rfl (v := undef) (.inr ⟨by rfl, rfl⟩) ?_; try simp only [Act.put, zuA, zuB, zuC, zuD, zuY, zuF]
      refine zk 29 rfl (v := undef) (.inr ⟨by rfl, rfl⟩) ?_; try simp only [Act.put, zuA, zuB, zuC, zuD, zuY, zuF]
      refine zk 30 rfl (v := undef) (.inr ⟨by rfl, rfl⟩) ?_; try simp only [Act.put, zuA, zuB, zuC, zuD, zuY, zuF]
      refine zk 31 rfl (v := undef) (.inr ⟨by rfl, rfl⟩) ?_; try simp only [Act.put, zuA, zuB, zuC, zuD, zuY, zuF]
      refine zk 32 rfl (v := undef) (.inr ⟨by rfl, rfl⟩) ?_; try simp only [Act.put, zuA, zuB, zuC, zuD, zuY, zuF]
      refine zk 33 rfl (v := undef) (.inr ⟨by rfl, rfl⟩) ?_; try simp only [Act.put, zuA, zuB, zuC, zuD, zuY, zuF]
      refine zk 34 rfl (v := undef) (.inr ⟨by rfl, rfl⟩) ?_; try simp only [Act.put, zuA, zuB, zuC, zuD, zuY, zuF]
      refine zk 35 rfl (v := undef) (.inr ⟨by rfl, rfl⟩) ?_; try simp only [Act.put, zuA, zuB, zuC, zuD, zuY, zuF]
      refine zv 36 rfl ?_
      refine zv 37 rfl ?_
      refine zd ?_ _
      go_wp2_with fail
      go_roundw
      case rel => exact ⟨0 + 1, by omega, by go_num, fun j hj => (by rcases Nat.lt_succ_iff_lt_or_eq.1 hj with h | rfl; exact HA.out j h; exact HYE.out), (RcBox.below HB.out (show Below wr.heap.size wr v1 from by rw [← HBe.out]; exact HSv1.out.b))⟩
      case measure => simp [intOf]; omega
     ·obtain ⟨y, hy⟩ : ∃ y, x0.v[m]? = some y := ⟨x0.v[m], List.getElem?_eq_getElem (by omega)⟩
      have HYY := zh hy
      have HSU := zh (vAt_succ HXX.out hy)
      have hz : decide (((m + 1 : Nat) : Int) > 0) = true := by simp <;> omega
      have hz' : decide ((m : Int) + 1 > 0) = true := by simp <;> omega
      have r1 : ((m + 1 : Nat) : Int) - 1 = (m : Int) := by omega
      have r2 : (m : Int) + 1 - 1 = (m : Int) := by omega
      have r3 : IntKind.i64.wrap (m : Int) = (m : Int) := IntWalk.i64_in _ (by have := HBD.out.2.2.2.2.1; omega)
      have r4 : (m : Int) < (x0.vn : Int) := by omega
      have r5 : (0 : Int) ≤ (m : Int) := by omega
      have r6 : (0 : Int) ≤ (m : Int) + 1 := by omega
      have r7 : (m : Int) + 1 < (x0.vn : Int) := by omega
      clear hy
      obtain ⟨c, hc⟩ : ∃ c, Op.bytesLess y.n.toList x.n.toList = c := ⟨_, rfl⟩
      have HC : Hid (pls y.n x.n = c) := hc
      rw [hnm, hlg, HC.out] at HSU
      clear hnm hlg HBAD h200
      cases c
      ·have HNO := zh (HNO0.out HSU.out)
       refine wp_region_held_drew (S := fun w' => Below B wr w') (by kernel_rfl) HSwr.out.b.drew (fun hHeld => ?_)
       refine zv 0 rfl ?_
       refine zw 1 rfl (v := ?_) ?_ ?_; rotate_left
       ·intro w' hSw
        have k0 := HC5.out w' (RcBox.below HB.out (show Below wr.heap.size wr w' from by rw [← HBe.out]; exact hSw))
        go_simp
        try with_reducible rfl
       try simp only [Act.put, zuA, zuB, zuC, zuD, zuY, zuF]
       refine zv 2 rfl ?_
       refine zv 3 rfl ?_
       refine zv 4 rfl ?_
       refine zx 5 rfl (v := ?_) ?_ ?_; rotate_left
       ·intro w' hSw; have k1 := (HPC.out w' hSw (m + 1) x HXX.out).1; go_simp; try with_reducible rfl
       refine zr 6 rfl (fun K hK => ?_)
       go_simp
       with_reducible refine (HCN.out _ (HSwr.out.drew).b).mono ?_
       rintro e v1 ⟨rfl, hb⟩
       have HSv1 := zh (HSwr.out.call ((Below.refl _ _).drew.trans hb))
       clear hb
       go_wp2_with fail
       refine hK.out _ _ HSv1.out.b fun _ => ?_; clear hK K
       refine zv 7 rfl ?_
       refine zv 8 rfl ?_
       refine zv 9 rfl ?_
       refine zw 10 rfl (v := ?_) ?_ ?_; rotate_left
       ·intro w' hSw
        have k0 := HC5.out w' (RcBox.below HB.out (show Below wr.heap.size wr w' from by rw [← HBe.out]; exact hSw))
        go_simp
        try with_reducible rfl
       try simp only [Act.put, zuA, zuB, zuC, zuD, zuY, zuF]
       refine zv 11 rfl ?_
       refine zv 12 rfl ?_
       refine zv 13 rfl ?_
       refine zx 14 rfl (v := ?_) ?_ ?_; rotate_left
       ·intro w' hSw; have k1 := (HPC.out w' hSw (m + 1) x HXX.out).2; go_simp; try with_reducible rfl
       refine zv 15 rfl ?_
       refine zv 16 rfl ?_
       refine zv 17 rfl ?_
       refine zv 18 rfl ?_
       refine zv 19 rfl ?_
       refine zv 20 rfl ?_
       refine zv 21 rfl ?_
       refine zv 22 rfl ?_
       refine zw 23 rfl (v := ?_) ?_ ?_; rotate_left
       ·intro w' hSw
        have k0 := HC5.out w' (RcBox.below HB.out (show Below wr.heap.size wr w' from by rw [← HBe.out]; exact hSw))
        go_simp
        try with_reducible rfl
       try simp only [Act.put, zuA, zuB, zuC, zuD, zuY, zuF]
       refine zv 24 rfl ?_
       refine zv 25 rfl ?_
       refine zv 26 rfl ?_
       refine zv 27 rfl ?_
       refine zx 28 rfl (v := ?_) ?_ ?_; rotate_left
       ·intro w' hSw; have k1 := (HPC.out w' hSw m y HYY.out).1; go_simp; try with_reducible rfl
       refine zv 29 rfl ?_
       refine zw 30 rfl (v := ?_) ?_ ?_; rotate_left
       ·intro w' hSw
        have k0 := HC5.out w' (RcBox.below HB.out (show Below wr.heap.size wr w' from by rw [← HBe.out]; exact hSw))
        go_simp
        try with_reducible rfl
       try simp only [Act.put, zuA, zuB, zuC, zuD, zuY, zuF]
       refine zv 31 rfl ?_
       refine zv 32 rfl ?_
       refine zv 33 rfl ?_
       refine zx 34 rfl (v := ?_) ?_ ?_; rotate_left
       ·intro w' hSw; have k1 := (HPC.out w' hSw (m + 1) x HXX.out).1; go_simp; try with_reducible rfl
       refine zv 35 rfl ?_
       refine zv 36 rfl ?_
       refine zv 37 rfl ?_
       refine zd ?_ _
       go_wp2_with fail
       go_ret
       exact ⟨by rw [HNO.out]; rfl, (RcBox.below HB.out (show Below wr.heap.size wr v1 from by rw [← HBe.out]; exact HSv1.out.b)).b⟩
      ·have HYE : Hid (vAt x0.v (m + 1) = true) := HSU.out
       refine wp_region_held_drew (S := fun w' => Below B wr w') (by kernel_rfl) HSwr.out.b.drew (fun hHeld => ?_)
       refine zv 0 rfl ?_
       refine zw 1 rfl (v := ?_) ?_ ?_; rotate_left
       ·intro w' hSw
        have k0 := HC5.out w' (RcBox.below HB.out (show Below wr.heap.size wr w' from by rw [← HBe.out]; exact hSw))
        go_simp
        try with_reducible rfl
       try simp only [Act.put, zuA, zuB, zuC, zuD, zuY, zuF]
       refine zv 2 rfl ?_
       refine zv 3 rfl ?_
       refine zv 4 rfl ?_
       refine zx 5 rfl (v := ?_) ?_ ?_; rotate_left
       ·intro w' hSw; have k1 := (HPC.out w' hSw (m + 1) x HXX.out).1; go_simp; try with_reducible rfl
       refine zr 6 rfl (fun K hK => ?_)
       go_simp
       with_reducible refine (HCN.out _ (HSwr.out.drew).b).mono ?_
       rintro e v1 ⟨rfl, hb⟩
       have HSv1 := zh (HSwr.out.call ((Below.refl _ _).drew.trans hb))
       clear hb
       go_wp2_with fail
       refine hK.out _ _ HSv1.out.b fun _ => ?_; clear hK K
       refine zv 7 rfl ?_
       refine zv 8 rfl ?_
       refine zv 9 rfl ?_
       refine zw 10 rfl (v := ?_) ?_ ?_; rotate_left
       ·intro w' hSw
        have k0 := HC5.out w' (RcBox.below HB.out (show Below wr.heap.size wr w' from by rw [← HBe.out]; exact hSw))
        go_simp
        try with_reducible rfl
       try simp only [Act.put, zuA, zuB, zuC, zuD, zuY, zuF]
       refine zv 11 rfl ?_
       refine zv 12 rfl ?_
       refine zv 13 rfl ?_
       refine zx 14 rfl (v := ?_) ?_ ?_; rotate_left
       ·intro w' hSw; have k1 := (HPC.out w' hSw (m + 1) x HXX.out).2; go_simp; try with_reducible rfl
       refine zv 15 rfl ?_
       refine zv 16 rfl ?_
       refine zv 17 rfl ?_
       refine zv 18 rfl ?_
       refine zv 19 rfl ?_
       refine zv 20 rfl ?_
       refine zv 21 rfl ?_
       refine zv 22 rfl ?_
       refine zw 23 rfl (v := ?_) ?_ ?_; rotate_left
       ·intro w' hSw
        have k0 := HC5.out w' (RcBox.below HB.out (show Below wr.heap.size wr w' from by rw [← HBe.out]; exact hSw))
        go_simp
        try with_reducible rfl
       try simp only [Act.put, zuA, zuB, zuC, zuD, zuY, zuF]
       refine zv 24 rfl ?_
       refine zv 25 rfl ?_
       refine zv 26 rfl ?_
       refine zv 27 rfl ?_
       refine zx 28 rfl (v := ?_) ?_ ?_; rotate_left
       ·intro w' hSw; have k1 := (HPC.out w' hSw m y HYY.out).1; go_simp; try with_reducible rfl
       refine zv 29 rfl ?_
       refine zw 30 rfl (v := ?_) ?_ ?_; rotate_left
       ·intro w' hSw
        have k0 := HC5.out w' (RcBox.below HB.out (show Below wr.heap.size wr w' from by rw [← HBe.out]; exact hSw))
        go_simp
        try with_reducible rfl
       try simp only [Act.put, zuA, zuB, zuC, zuD, zuY, zuF]
       refine zv 31 rfl ?_
       refine zv 32 rfl ?_
       refine zv 33 rfl ?_
       refine zx 34 rfl (v := ?_) ?_ ?_; rotate_left
       ·intro w' hSw; have k1 := (HPC.out w' hSw (m + 1) x HXX.out).1; go_simp; try with_reducible rfl
       refine zv 35 rfl ?_
       refine zv 36 rfl ?_
       refine zv 37 rfl ?_
       refine zd ?_ _
       go_wp2_with fail
       go_roundw
       case rel => exact ⟨m + 1 + 1, by omega, by go_num, fun j hj => (by rcases Nat.lt_succ_iff_lt_or_eq.1 hj with h | rfl; exact HA.out j h; exact HYE.out), (RcBox.below HB.out (show Below wr.heap.size wr v1 from by rw [← HBe.out]; exact HSv1.out.b))⟩
       case measure => simp [intOf]; omega
  ·obtain rfl : k = x0.vn := by omega
   have hd : decide ((x0.vn : Int) < (x0.vn : Int)) = false := by simp
   have HRB2 : Hid (RB = (R6 && R7)) := by show _ = _; rw [HRB.out, vAll_yes HL.out.len HA.out]; rfl
   clear HRB HA
   have c5 := HB.out.c5; have c6 := HB.out.c6
   go_wp2_with fail
   refine (HC6.out wr HB.out.i).mono ?_
   rintro e w3 ⟨rfl, hb⟩
   have HB3 : Hid (RcBox x0 w w3) := HB.out.below hb
   clear hb HB c5 c6 HC6
   have c7 := HB3.out.c7
   cases R6
   ·go_wp2_with fail
    go_ret
    exact ⟨by rw [HRB2.out]; rfl, HB3.out.b⟩
   go_wp2_with fail
   refine (HC7.out w3 HB3.out.i).mono ?_
   rintro e w4 ⟨rfl, hb⟩
   have HB4 : Hid (RcBox x0 w w4) := HB3.out.below hb
   clear hb HB3 c7 HC7
   go_wp2_with fail
   go_ret
   exact ⟨by rw [HRB2.out]; rfl, HB4.out.b⟩
end Go.Proofs.YtecllfbadciaoaaGreatDoor
