/-
  The walk of the statement SnapshotChain.
-/
import Derived.Test.YtkookkhlgllneaaDoorSnV
import Derived.Test.YtkookkhlgllneaaDoorLawSnD
namespace Go.Proofs.YtkookkhlgllneaaDoor
open Go.RowKit

theorem ResC.good {w w' : World} {r : Except Int (List Cg)} {l : List Cg} {e : Ending} (hr : r = .ok l) (h : ResC w r e w') : ∃ sp n cap, e = .returned (.tuple #[.slice sp n cap, .int .i64 0]) ∧ CgsIn w' w'.heap.size sp n cap l ∧ Below w.heap.size w w' := by
  subst hr
  exact h.uni
set_option maxRecDepth 100000 in
set_option maxHeartbeats 1000000 in
theorem snapshotChain_any (spt : Option Addr) (nt ct : Nat) (lt : List Int) (w : World) (ht : IntsT w w.heap.size spt nt ct lt) :
    Calls Tryd.prog 5 #[.slice spt nt ct] w fun e w' => e = .returned (.bool true) ∧ Below w.heap.size w w' := by
  have HTP := Lib.hid ht.tape; clear ht
  have HD := Lib.hid (fun (s1 : Option Addr) (m1 c1 : Nat) (x : List En) (s2 : Option Addr) (m2 c2 : Nat) (y : List En) (l : List Cg) w1 (h1 : EnsIn w1 w1.heap.size s1 m1 c1 x) (h2 : EnsIn w1 w1.heap.size s2 m2 c2 y) (k1 : m1 ≤ 100000) (k2 : m2 ≤ 100000) (hr : sDiff x y = .ok l) => (Diff_any s1 m1 c1 x s2 m2 c2 y w1 h1 h2 k1 k2).mono fun e w' h => h.good hr)
  have HC := Lib.hid (fun (s1 : Option Addr) (m1 c1 : Nat) (x : List Cg) (s2 : Option Addr) (m2 c2 : Nat) (y : List Cg) (l : List Cg) w1 (h1 : CgsIn w1 w1.heap.size s1 m1 c1 x) (h2 : CgsIn w1 w1.heap.size s2 m2 c2 y) (k1 : m1 ≤ 100000) (k2 : m2 ≤ 100000) (hr : sCompose x y = .ok l) => (Compose_any s1 m1 c1 x s2 m2 c2 y w1 h1 h2 k1 k2).mono fun e w' h => h.good hr)
  have HB0 := Lib.hid ((Below.refl w.heap.size w).alloc (Nat.le_refl _) (.cells #[.slice spt nt ct, .int .i64 0] 37))
  go_enter Tryd.func5, Tryd.ntmps5
  go_wp2_with (refine wpList_build_eq rfl 37 [(0, .tmp 15)] rfl [(0, .slice spt nt ct)] rfl _ (buildTp _ ⟨_, _, _, rfl⟩ _) ?_)
  generalize hw0 : World.alloc w _ = w0
  have htp : Tp w0 w.heap.size 1000 := by rw [← hw0]; exact ⟨_, _, _, _, _, HTP.out, by omega⟩
  have hb0 : Below w.heap.size w w0 := by rw [← hw0]; exact HB0.out
  have HT0 := Lib.hid htp; have HBL0 := Lib.hid hb0
  have htl := htp.lt
  clear hw0 htp hb0
  refine (snapshot_any w.heap.size 6 100 w0 (HT0.out.le (by omega)) (by omega)).mono ?_
  rintro e w1 ⟨spa, na, ca, a, rfl, hea, haa, hsa, hna, ht1, hu1⟩
  have HEA := Lib.hid hea; have HAA := Lib.hid haa; have HSA := Lib.hid hsa; have HT1 := Lib.hid ht1
  have HB1 := Lib.hid (HBL0.out.trans (hu1.below (Nat.le_refl _) htl))
  clear hea haa hsa ht1 hu1
  have htl1 := HT1.out.lt
  go_wp2_with fail
  refine (edit_any w.heap.size 50 spa na ca a w1 (HT1.out.le (by omega)) HEA.out HAA.out HSA.out (by omega)).mono ?_
  rintro e w2 ⟨spb, nb, cb, b, rfl, heb, hab, hsb, hnb, ht2, hu2⟩
  have HEA2 := Lib.hid (HEA.out.turn HAA.out hu2); have HEB := Lib.hid heb; have HAB := Lib.hid hab; have HSB := Lib.hid hsb; have HT2 := Lib.hid ht2
  have HB2 := Lib.hid (HB1.out.trans (hu2.below (Nat.le_refl _) htl1))
  clear heb hab hsb ht2 hu2
  have htl2 := HT2.out.lt
  go_wp2_with fail
  refine (edit_any w.heap.size 20 spb nb cb b w2 (HT2.out.le (by omega)) HEB.out HAB.out HSB.out (by omega)).mono ?_
  rintro e w3 ⟨spc, nc, cc, c, rfl, hec, hac, hsc, hnc, ht3, hu3⟩
  have HEA3 := Lib.hid (HEA2.out.turn HAA.out hu3); have HEB3 := Lib.hid (HEB.out.turn HAB.out hu3); have HEC := Lib.hid hec; have HSC := Lib.hid hsc
  have HB3 := Lib.hid (HB2.out.trans (hu3.below (Nat.le_refl _) htl2))
  clear hec hac hsc ht3 hu3
  have la : a.length ≤ 64 := by have := HEA.out.len; omega
  have lb : b.length ≤ 64 := by have := HEB.out.len; omega
  have lc : c.length ≤ 64 := by have := HEC.out.len; omega
  have E1 := Lib.hid (sDiff_snap HSA.out HSB.out la lb)
  have E2 := Lib.hid (sDiff_snap HSB.out HSC.out lb lc)
  have E3 := Lib.hid (sDiff_snap HSA.out HSC.out la lc)
  have E4 := Lib.hid (sCompose_snap HSA.out HSB.out HSC.out la lb lc)
  have L1 := len_cdif HSA.out HSB.out
  have L2 := len_cdif HSB.out HSC.out
  have L3 := len_cdif HSA.out HSC.out
  generalize cdif a b = x at E1 E4 L1
  generalize cdif b c = y at E2 E4 L2
  generalize cdif a c = z at E3 E4 L3
  go_wp2_with fail
  refine (HD.out spa na ca a spb nb cb b x w3 HEA3.out HEB3.out (by omega) (by omega) E1.out).mono ?_
  rintro e w4 ⟨sp1, n1, cp1, rfl, hx1, hb4⟩
  have HX1 := Lib.hid hx1; have HA4 := Lib.hid (HEA3.out.up hb4 (Nat.le_refl _)); have HB_4 := Lib.hid (HEB3.out.up hb4 (Nat.le_refl _)); have HC4 := Lib.hid (HEC.out.up hb4 (Nat.le_refl _))
  have HB4 := Lib.hid (HB3.out.trans (hb4.mono HB3.out.size)); clear hx1 hb4
  go_wp2_with fail
  refine (HD.out spb nb cb b spc nc cc c y w4 HB_4.out HC4.out (by omega) (by omega) E2.out).mono ?_
  rintro e w5 ⟨sp2, n2, cp2, rfl, hx2, hb5⟩
  have HX15 := Lib.hid (HX1.out.up hb5 (Nat.le_refl _)); have HX2 := Lib.hid hx2; have HA5 := Lib.hid (HA4.out.up hb5 (Nat.le_refl _)); have HC5 := Lib.hid (HC4.out.up hb5 (Nat.le_refl _))
  have HB5 := Lib.hid (HB4.out.trans (hb5.mono HB4.out.size)); clear hx2 hb5
  have N1 := HX1.out.len
  have N2 := HX2.out.len
  go_wp2_with fail
  refine (HC.out sp1 n1 cp1 x sp2 n2 cp2 y z w5 HX15.out HX2.out (by omega) (by omega) E4.out).mono ?_
  rintro e w6 ⟨sp3, n3, cp3, rfl, hx3, hb6⟩
  have HX3 := Lib.hid hx3; have HA6 := Lib.hid (HA5.out.up hb6 (Nat.le_refl _)); have HC6 := Lib.hid (HC5.out.up hb6 (Nat.le_refl _))
  have HB6 := Lib.hid (HB5.out.trans (hb6.mono HB5.out.size)); clear hx3 hb6
  go_wp2_with fail
  refine (HD.out spa na ca a spc nc cc c z w6 HA6.out HC6.out (by omega) (by omega) E3.out).mono ?_
  rintro e w7 ⟨sp4, n4, cp4, rfl, hx4, hb7⟩
  have HX37 := Lib.hid (HX3.out.up hb7 (Nat.le_refl _)); have HX4 := Lib.hid hx4
  have HB7 := Lib.hid (HB6.out.trans (hb7.mono HB6.out.size)); clear hx4 hb7
  go_wp2_with fail
  refine (awake4_any w7).mono ?_
  rintro e w8 ⟨rfl, hb8⟩
  have HX38 := Lib.hid (HX37.out.up hb8 (Nat.le_refl _)); have HX48 := Lib.hid (HX4.out.up hb8 (Nat.le_refl _))
  have HB8 := Lib.hid (HB7.out.trans (hb8.mono HB7.out.size)); clear hb8
  have hq1 := sameC_any sp3 n3 cp3 z sp4 n4 cp4 z w8 HX38.out HX48.out (by have := HX38.out.len; omega)
  rw [decide_eq_true rfl] at hq1
  have HQ1 := Lib.hid hq1; clear hq1
  go_wp2_with fail
  refine HQ1.out.mono ?_
  rintro e w9 ⟨rfl, hb9⟩
  have HB9 := Lib.hid (HB8.out.trans (hb9.mono HB8.out.size)); clear hb9
  go_wp2_with fail
  go_ret
  exact ⟨rfl, HB9.out⟩
end Go.Proofs.YtkookkhlgllneaaDoor
