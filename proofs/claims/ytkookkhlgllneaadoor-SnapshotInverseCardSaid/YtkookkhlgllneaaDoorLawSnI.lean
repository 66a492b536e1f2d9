/-
  The walk of the statement SnapshotInverse.
-/
import Derived.Test.YtkookkhlgllneaaDoorSnW
import Derived.Test.YtkookkhlgllneaaDoorLawSnH
namespace Go.Proofs.YtkookkhlgllneaaDoor
open Go.RowKit

theorem ResE.good {w w' : World} {r : Except Int (List En)} {l : List En} {e : Ending} (hr : r = .ok l) (h : ResE w r e w') : ∃ sp n cap, e = .returned (.tuple #[.slice sp n cap, .int .i64 0]) ∧ EnsIn w' w'.heap.size sp n cap l ∧ Below w.heap.size w w' := by
  subst hr
  exact h.uni
set_option maxRecDepth 100000 in
set_option maxHeartbeats 1000000 in
theorem snapshotInverse_any (spt : Option Addr) (nt ct : Nat) (lt : List Int) (w : World) (ht : IntsT w w.heap.size spt nt ct lt) :
    Calls Tryd.prog 4 #[.slice spt nt ct] w fun e w' => e = .returned (.bool true) ∧ Below w.heap.size w w' := by
  have HTP := Lib.hid ht.tape; clear ht
  have HD := Lib.hid (fun (s1 : Option Addr) (m1 c1 : Nat) (x : List En) (s2 : Option Addr) (m2 c2 : Nat) (y : List En) (l : List Cg) w1 (h1 : EnsIn w1 w1.heap.size s1 m1 c1 x) (h2 : EnsIn w1 w1.heap.size s2 m2 c2 y) (k1 : m1 ≤ 100000) (k2 : m2 ≤ 100000) (hr : sDiff x y = .ok l) => (Diff_any s1 m1 c1 x s2 m2 c2 y w1 h1 h2 k1 k2).mono fun e w' h => h.good hr)
  have HP := Lib.hid (fun (s1 : Option Addr) (m1 c1 : Nat) (x : List En) (s2 : Option Addr) (m2 c2 : Nat) (y : List Cg) (l : List En) w1 (h1 : EnsIn w1 w1.heap.size s1 m1 c1 x) (h2 : CgsIn w1 w1.heap.size s2 m2 c2 y) (k1 : m1 ≤ 100000) (k2 : m2 ≤ 100000) (hr : sApply x y = .ok l) => (Apply_any s1 m1 c1 x s2 m2 c2 y w1 h1 h2 k1 k2).mono fun e w' h => h.good hr)
  have HI := Lib.hid (fun (s1 : Option Addr) (m1 c1 : Nat) (x l : List Cg) w1 (h1 : CgsIn w1 w1.heap.size s1 m1 c1 x) (k1 : m1 ≤ 100000) (hr : sInvert x = .ok l) => (Invert_any s1 m1 c1 x w1 h1 (by omega)).mono fun e w' h => h.good hr)
  have HB0 := Lib.hid ((Below.refl w.heap.size w).alloc (Nat.le_refl _) (.cells #[.slice spt nt ct, .int .i64 0] 37))
  go_enter Tryd.func4, Tryd.ntmps4
  go_wp2_with (refine wpList_build_eq rfl 37 [(0, .tmp 16)] rfl [(0, .slice spt nt ct)] rfl _ (buildTp _ ⟨_, _, _, rfl⟩ _) ?_)
  generalize hw0 : World.alloc w _ = w0
  have htp : Tp w0 w.heap.size 1000 := by rw [← hw0]; exact ⟨_, _, _, _, _, HTP.out, by omega⟩
  have hb0 : Below w.heap.size w w0 := by rw [← hw0]; exact HB0.out
  have HT0 := Lib.hid htp; have HBL0 := Lib.hid hb0
  have htl := htp.lt
  clear hw0 htp hb0
  refine (snapshot_any w.heap.size 8 100 w0 (HT0.out.le (by omega)) (by omega)).mono ?_
  rintro e w1 ⟨spa, na, ca, a, rfl, hea, haa, hsa, hna, ht1, hu1⟩
  have HEA := Lib.hid hea; have HAA := Lib.hid haa; have HSA := Lib.hid hsa; have HT1 := Lib.hid ht1
  have HB1 := Lib.hid (HBL0.out.trans (hu1.below (Nat.le_refl _) htl))
  clear hea haa hsa ht1 hu1
  have htl1 := HT1.out.lt
  go_wp2_with fail
  refine (edit_any w.heap.size 50 spa na ca a w1 (HT1.out.le (by omega)) HEA.out HAA.out HSA.out (by omega)).mono ?_
  rintro e w2 ⟨spm, nm, cm, m, rfl, hem, ham, hsm, hnm, ht2, hu2⟩
  have HEA2 := Lib.hid (HEA.out.turn HAA.out hu2); have HEM := Lib.hid hem; have HAM := Lib.hid ham; have HSM := Lib.hid hsm; have HT2 := Lib.hid ht2
  have HB2 := Lib.hid (HB1.out.trans (hu2.below (Nat.le_refl _) htl1))
  clear hem ham hsm ht2 hu2
  have htl2 := HT2.out.lt
  go_wp2_with fail
  refine (edit_any w.heap.size 20 spm nm cm m w2 (HT2.out.le (by omega)) HEM.out HAM.out HSM.out (by omega)).mono ?_
  rintro e w3 ⟨spb, nb, cb, b, rfl, heb, hab, hsb, hnb, ht3, hu3⟩
  have HA3 := Lib.hid (HEA2.out.turn HAA.out hu3); have HB_3 := Lib.hid heb; have HSB := Lib.hid hsb
  have HB3 := Lib.hid (HB2.out.trans (hu3.below (Nat.le_refl _) htl2))
  clear heb hab hsb ht3 hu3
  have la : a.length ≤ 64 := by have := HEA.out.len; omega
  have lb : b.length ≤ 64 := by have := HB_3.out.len; omega
  have E1 := Lib.hid (sDiff_snap HSA.out HSB.out la lb)
  have E2 := Lib.hid (sApply_snap HSA.out HSB.out la lb)
  have E3 := Lib.hid (sInvert_snap HSA.out HSB.out la lb)
  have E4 := Lib.hid (sApply_snap HSB.out HSA.out lb la)
  have E5 := Lib.hid (sDiff_snap HSB.out HSA.out lb la)
  have L1 := len_cdif HSA.out HSB.out
  have L2 := len_cdif HSB.out HSA.out
  generalize cdif a b = x at E1 E2 E3 L1
  generalize cdif b a = y at E3 E4 E5 L2
  go_wp2_with fail
  refine (HD.out spa na ca a spb nb cb b x w3 HA3.out HB_3.out (by omega) (by omega) E1.out).mono ?_
  rintro e w4 ⟨sp1, n1, cp1, rfl, hx1, hb4⟩
  have HX1 := Lib.hid hx1; have HA4 := Lib.hid (HA3.out.up hb4 (Nat.le_refl _)); have HB_4 := Lib.hid (HB_3.out.up hb4 (Nat.le_refl _))
  have HB4 := Lib.hid (HB3.out.trans (hb4.mono HB3.out.size)); clear hx1 hb4
  have N1 := HX1.out.len
  go_wp2_with fail
  refine (HP.out spa na ca a sp1 n1 cp1 x b w4 HA4.out HX1.out (by omega) (by omega) E2.out).mono ?_
  rintro e w5 ⟨sp2, n2, cp2, rfl, hx2, hb5⟩
  have HX15 := Lib.hid (HX1.out.up hb5 (Nat.le_refl _)); have HS5 := Lib.hid hx2; have HA5 := Lib.hid (HA4.out.up hb5 (Nat.le_refl _)); have HB_5 := Lib.hid (HB_4.out.up hb5 (Nat.le_refl _))
  have HB5 := Lib.hid (HB4.out.trans (hb5.mono HB4.out.size)); clear hx2 hb5
  go_wp2_with fail
  refine (HI.out sp1 n1 cp1 x y w5 HX15.out (by omega) E3.out).mono ?_
  rintro e w6 ⟨sp3, n3, cp3, rfl, hx3, hb6⟩
  have HY6 := Lib.hid hx3; have HS6 := Lib.hid (HS5.out.up hb6 (Nat.le_refl _)); have HA6 := Lib.hid (HA5.out.up hb6 (Nat.le_refl _)); have HB_6 := Lib.hid (HB_5.out.up hb6 (Nat.le_refl _))
  have HB6 := Lib.hid (HB5.out.trans (hb6.mono HB5.out.size)); clear hx3 hb6
  have N3 := HY6.out.len
  go_wp2_with fail
  refine (HP.out spb nb cb b sp3 n3 cp3 y a w6 HB_6.out HY6.out (by omega) (by omega) E4.out).mono ?_
  rintro e w7 ⟨sp4, n4, cp4, rfl, hx4, hb7⟩
  have HK7 := Lib.hid hx4; have HY7 := Lib.hid (HY6.out.up hb7 (Nat.le_refl _)); have HS7 := Lib.hid (HS6.out.up hb7 (Nat.le_refl _)); have HA7 := Lib.hid (HA6.out.up hb7 (Nat.le_refl _)); have HB_7 := Lib.hid (HB_6.out.up hb7 (Nat.le_refl _))
  have HB7 := Lib.hid (HB6.out.trans (hb7.mono HB6.out.size)); clear hx4 hb7
  go_wp2_with fail
  refine (HD.out spb nb cb b spa na ca a y w7 HB_7.out HA7.out (by omega) (by omega) E5.out).mono ?_
  rintro e w8 ⟨sp5, n5, cp5, rfl, hx5, hb8⟩
  have HN8 := Lib.hid hx5; have HK8 := Lib.hid (HK7.out.up hb8 (Nat.le_refl _)); have HY8 := Lib.hid (HY7.out.up hb8 (Nat.le_refl _)); have HS8 := Lib.hid (HS7.out.up hb8 (Nat.le_refl _)); have HA8 := Lib.hid (HA7.out.up hb8 (Nat.le_refl _)); have HB_8 := Lib.hid (HB_7.out.up hb8 (Nat.le_refl _))
  have HB8 := Lib.hid (HB7.out.trans (hb8.mono HB7.out.size)); clear hx5 hb8
  go_wp2_with fail
  refine (awake4_any w8).mono ?_
  rintro e w9 ⟨rfl, hb9⟩
  have HN9 := Lib.hid (HN8.out.up hb9 (Nat.le_refl _)); have HK9 := Lib.hid (HK8.out.up hb9 (Nat.le_refl _)); have HY9 := Lib.hid (HY8.out.up hb9 (Nat.le_refl _)); have HS9 := Lib.hid (HS8.out.up hb9 (Nat.le_refl _)); have HA9 := Lib.hid (HA8.out.up hb9 (Nat.le_refl _)); have HB_9 := Lib.hid (HB_8.out.up hb9 (Nat.le_refl _))
  have HB9 := Lib.hid (HB8.out.trans (hb9.mono HB8.out.size)); clear hb9
  have hq1 := sameE_any sp2 n2 cp2 b spb nb cb b w9 HS9.out HB_9.out (by have := HS9.out.len; omega)
  rw [decide_eq_true rfl] at hq1
  have HQ1 := Lib.hid hq1; clear hq1
  go_wp2_with fail
  refine HQ1.out.mono ?_
  rintro e w10 ⟨rfl, hb10⟩
  have HN10 := Lib.hid (HN9.out.up hb10 (Nat.le_refl _)); have HK10 := Lib.hid (HK9.out.up hb10 (Nat.le_refl _)); have HY10 := Lib.hid (HY9.out.up hb10 (Nat.le_refl _)); have HA10 := Lib.hid (HA9.out.up hb10 (Nat.le_refl _))
  have HB10 := Lib.hid (HB9.out.trans (hb10.mono HB9.out.size)); clear hb10
  have hq2 := sameE_any sp4 n4 cp4 a spa na ca a w10 HK10.out HA10.out (by have := HK10.out.len; omega)
  rw [decide_eq_true rfl] at hq2
  have HQ2 := Lib.hid hq2; clear hq2
  go_wp2_with fail
  refine HQ2.out.mono ?_
  rintro e w11 ⟨rfl, hb11⟩
  have HN11 := Lib.hid (HN10.out.up hb11 (Nat.le_refl _)); have HY11 := Lib.hid (HY10.out.up hb11 (Nat.le_refl _))
  have HB11 := Lib.hid (HB10.out.trans (hb11.mono HB10.out.size)); clear hb11
  have hq3 := sameC_any sp3 n3 cp3 y sp5 n5 cp5 y w11 HY11.out HN11.out (by have := HY11.out.len; omega)
  rw [decide_eq_true rfl] at hq3
  have HQ3 := Lib.hid hq3; clear hq3
  go_wp2_with fail
  refine HQ3.out.mono ?_
  rintro e w12 ⟨rfl, hb12⟩
  have HB12 := Lib.hid (HB11.out.trans (hb12.mono HB11.out.size)); clear hb12
  go_wp2_with fail
  go_ret
  exact ⟨rfl, HB12.out⟩
end Go.Proofs.YtkookkhlgllneaaDoor
