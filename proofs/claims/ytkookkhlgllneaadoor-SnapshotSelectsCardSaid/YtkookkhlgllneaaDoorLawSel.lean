/-
  The walk of the statement SnapshotSelects (conditions: digests of 32 bytes).
-/
import Derived.Test.YtkookkhlgllneaaDoorSelA
import Derived.Test.YtkookkhlgllneaaDoorSelB
import Derived.Test.YtkookkhlgllneaaDoorTapG
import Derived.Test.YtkookkhlgllneaaDoorLawSnD
import Derived.Test.YtkookkhlgllneaaDoorLawSnA
namespace Go.Proofs.YtkookkhlgllneaaDoor
open Go.RowKit

theorem moveL_short (a b : ByteArray) (s : List En) : (vE (moveL a b s)).1.length ≤ s.length := by
  unfold moveL
  split
  · exact List.length_filterMap_le _ _
  · simp [vE]
theorem moveL_code (a b : ByteArray) (s : List En) : (vE (moveL a b s)).2 = 0 ∧ vldE (vE (moveL a b s)).1 = true ∨ (vE (moveL a b s)).2 = 1 := by
  cases h : moveL a b s with
  | error k =>
    unfold moveL at h
    split at h
    · cases h
    · injection h with h; subst h; exact .inr rfl
  | ok l => exact .inl ⟨rfl, moveL_vld h⟩
theorem slice2 (w : World) (a b c d e f : _) : (Instr.buildSlice 49 2 #[(0, .slice a b c), (1, .slice d e f)]).run Tryd.prog w = .ok (.slice (some ⟨w.heap.size, 0, none⟩) 2 2) (w.alloc (.cells #[.slice a b c, .slice d e f] 22)) := by kernel_rfl
set_option maxRecDepth 100000 in
set_option maxHeartbeats 4000000 in
theorem snapshotSelects_any (spa : Option Addr) (na ca : Nat) (a : List En) (spt : Option Addr) (nt ct : Nat) (lt : List Int) (w : World)
    (ha : EnsIn w w.heap.size spa na ca a) (ht : IntsT w w.heap.size spt nt ct lt) :
    Calls Tryd.prog 6 #[.slice spa na ca, .slice spt nt ct] w fun e w' => e = .returned (.bool true) ∧ Below w.heap.size w w' := by
  have HA := Lib.hid ha; have HTP := Lib.hid ht.tape; clear ha ht
  by_cases h1 : na ≤ 200
  case neg =>
    have hf := light4_any spa na ca w
    rw [decide_eq_false h1] at hf
    have HF := Lib.hid hf; clear hf h1
    go_enter Tryd.func6, Tryd.ntmps6
    go_wp2_with fail
    refine HF.out.mono ?_
    rintro e w1 ⟨rfl, rfl⟩
    go_wp2_with fail
    go_ret
    exact ⟨rfl, Below.refl _ _⟩
  have hf := light4_any spa na ca w
  rw [decide_eq_true h1] at hf
  have HF := Lib.hid hf; clear hf
  have HB0 := Lib.hid ((Below.refl w.heap.size w).alloc (Nat.le_refl _) (.cells #[.slice spt nt ct, .int .i64 0] 37))
  go_enter Tryd.func6, Tryd.ntmps6
  go_wp2_with fail
  refine HF.out.mono ?_
  rintro e w1 ⟨rfl, rfl⟩
  go_wp2_with (refine wpList_build_eq rfl 37 [(0, .tmp 18)] rfl [(0, .slice spt nt ct)] rfl _ (buildTp _ ⟨_, _, _, rfl⟩ _) ?_)
  generalize hw0 : World.alloc w _ = w0
  have htp : Tp w0 w.heap.size 1000 := by rw [← hw0]; exact ⟨_, _, _, _, _, HTP.out, by omega⟩
  have hb0 : Below w.heap.size w w0 := by rw [← hw0]; exact HB0.out
  have HT0 := Lib.hid htp; have HBL0 := Lib.hid hb0
  have htl := htp.lt
  clear hw0 htp hb0
  refine (tpattern_any w.heap.size 100 w0 (HT0.out.le (by omega))).mono ?_
  rintro e w1 ⟨p, rfl, ht1, hu1⟩
  have HT1 := Lib.hid ht1
  have HB1 := Lib.hid (HBL0.out.trans (hu1.below (Nat.le_refl _) htl))
  clear ht1 hu1
  have htl1 := HT1.out.lt
  go_wp2_with fail
  refine (tdirectory_any w.heap.size 90 w1 (HT1.out.le (by omega))).mono ?_
  rintro e w2 ⟨da, rfl, ht2, hu2⟩
  have HT2 := Lib.hid ht2
  have HB2 := Lib.hid (HB1.out.trans (hu2.below (Nat.le_refl _) htl1))
  clear ht2 hu2
  have htl2 := HT2.out.lt
  go_wp2_with fail
  refine (tdirectory_any w.heap.size 80 w2 (HT2.out.le (by omega))).mono ?_
  rintro e w3 ⟨db, rfl, ht3, hu3⟩
  have HT3 := Lib.hid ht3
  have HB3 := Lib.hid (HB2.out.trans (hu3.below (Nat.le_refl _) htl2))
  clear ht3 hu3
  have htl3 := HT3.out.lt
  go_wp2_with fail
  refine (snapshot_any w.heap.size 8 20 w3 (HT3.out.le (by omega)) (by omega)).mono ?_
  rintro e w4 ⟨spc, nc, cc, c, rfl, hec, hac, hsc, hnc, ht4, hu4⟩
  have HEC := Lib.hid hec
  have HB4 := Lib.hid (HB3.out.trans (hu4.below (Nat.le_refl _) htl3))
  clear hec hac hsc ht4 hu4 htl htl1 htl2 htl3
  have hs4 := HB4.out.size
  go_wp2_with (refine wpList_slice_eq rfl 49 2 [(0, .tmp 27), (1, .tmp 29)] rfl [(0, .slice spa na ca), (1, .slice spc nc cc)] rfl _ _ (slice2 _ _ _ _ _ _ _) ?_)
  generalize hw5 : World.alloc w4 _ = w5
  have hb5 : Below w4.heap.size w4 w5 := by rw [← hw5]; exact (Below.refl _ _).alloc (Nat.le_refl _) _
  have hx5 : w5.cell? ⟨w4.heap.size, 0, none⟩ = some (.slice spa na ca) := by rw [← hw5, cell_of_row _ w4.heap.size 0 _ _ _ (heap_alloc_new w4 _)]; rfl
  have hy5 : w5.cell? ⟨w4.heap.size, 1, none⟩ = some (.slice spc nc cc) := by rw [← hw5, cell_of_row _ w4.heap.size 1 _ _ _ (heap_alloc_new w4 _)]; rfl
  have hz5 : w4.heap.size < w5.heap.size := by rw [← hw5]; simp
  have HB5 := Lib.hid (HB4.out.trans (hb5.mono HB4.out.size))
  have HA5 := Lib.hid (HA.out.up HB5.out (Nat.le_refl _))
  have HC5 := Lib.hid (HEC.out.up hb5 (Nat.le_refl _))
  have HEV : Hid (∀ k, k < 2 → ∃ sp n cap l, w5.cell? ⟨w4.heap.size, k, none⟩ = some (.slice sp n cap) ∧ EnsIn w5 w5.heap.size sp n cap l ∧ n ≤ 1000) := by
    intro k hk
    rcases (by omega : k = 0 ∨ k = 1) with rfl | rfl
    · exact ⟨spa, na, ca, a, hx5, HA5.out, by omega⟩
    · exact ⟨spc, nc, cc, c, hy5, HC5.out, by omega⟩
  have HZ5 := Lib.hid hz5
  clear hw5 hb5 hx5 hy5 HA5 HC5 HEC HT0 HT1 HT2 HT3 HBL0 HB0 hnc hz5 hs4 h1
  obtain ⟨g, hg⟩ : ∃ g, w4.heap.size = g := ⟨_, rfl⟩
  rw [hg] at HEV HZ5 ⊢
  clear hg
  go_wp2_with fail
  go_loopw [32] (fun i wr => ∃ k : Nat, k ≤ 2 ∧ i = .int .i64 k ∧ Hid (Below w5.heap.size w5 wr)) (fun i _ => 2 - (intOf i).toNat)
  case atStart => exact ⟨0, by omega, rfl, Below.refl _ _⟩
  case round =>
    obtain ⟨k, hk, rfl, hbe⟩ := hrel
    by_cases hlt : k < 2
    · have hd : decide ((k : Int) < 2) = true := by simp; omega
      have p1 : (0 : Int) ≤ (k : Int) := by omega
      have p2 : (k : Int) < (2 : Int) := by omega
      obtain ⟨sp, n, cap, l, hc, he, hn⟩ := HEV.out k hlt
      have hcr := (hbe.out.cell (p := ⟨g, k, none⟩) HZ5.out).trans hc
      have HE := Lib.hid he
      clear hc he
      have hs1 := moveL_short da db l
      have hln := HE.out.len
      have hcd := moveL_code da db l
      have HM1 := Lib.hid (fun w1 (h : EnsIn w1 w1.heap.size sp n cap l) => (Move_any sp n cap l da db w1 h (by omega)).mono fun e w' h => h.uni)
      have HM2 := Lib.hid (fun w1 (h : EnsIn w1 w1.heap.size sp n cap l) => (refMove_any sp n cap l da db w1 h (by omega)).mono fun e w' h => h.uni)
      have HS1 := Lib.hid (fun w1 (h : EnsIn w1 w1.heap.size sp n cap l) => Select_any sp n cap l p w1 h (by omega))
      have HS2 := Lib.hid (fun w1 (h : EnsIn w1 w1.heap.size sp n cap l) => refSelect_any sp n cap l p w1 h (by omega))
      have hs2 := selL_le p l
      generalize vE (moveL da db l) = rc at *
      obtain ⟨m, rk⟩ := rc
      simp only at hs1 hcd HM1 HM2
      generalize selL p l = q at *
      have hm : m.length ≤ 1000 := by omega
      have hq : q.length ≤ 1000 := by omega
      have HCD := Lib.hid hcd
      have HQL := Lib.hid hq
      clear hs1 hs2 hln hcd hq
      have hne : (!(rk == rk)) = false := by simp
      go_wp2_with fail
      refine (HM1.out wr (HE.out.up hbe.out (Nat.le_refl _))).mono ?_
      rintro e w6 ⟨sp1, n1, cp1, rfl, hx1, hb6⟩
      have HX1 := Lib.hid hx1; have HB6 := Lib.hid (hbe.out.trans (hb6.mono hbe.out.size)); clear hx1 hb6
      go_wp2_with fail
      refine (HM2.out w6 (HE.out.up HB6.out (Nat.le_refl _))).mono ?_
      rintro e w7 ⟨sp2, n2, cp2, rfl, hx2, hb7⟩
      have HX17 := Lib.hid (HX1.out.up hb7 (Nat.le_refl _)); have HX27 := Lib.hid hx2
      have HB7 := Lib.hid (HB6.out.trans (hb7.mono HB6.out.size)); clear hx2 hb7
      have hq1 := sameE_any sp1 n1 cp1 m sp2 n2 cp2 m w7 HX17.out HX27.out (by have := HX17.out.len; omega)
      rw [decide_eq_true rfl] at hq1
      have HQ1 := Lib.hid hq1; clear hq1
      go_wp2_with fail
      refine HQ1.out.mono ?_
      rintro e w8 ⟨rfl, hb8⟩
      have HX18 := Lib.hid (HX17.out.up hb8 (Nat.le_refl _))
      have HB8 := Lib.hid (HB7.out.trans (hb8.mono HB7.out.size)); clear hb8
      go_wp2_with fail
      refine (HS1.out w8 (HE.out.up HB8.out (Nat.le_refl _))).mono ?_
      rintro e w9 ⟨sp3, n3, cp3, rfl, hn3, ho3, hb9⟩
      have HX19 := Lib.hid (HX18.out.up hb9 (Nat.le_refl _))
      have HY9 := Lib.hid (ho3.ens hn3.symm)
      have HB9 := Lib.hid (HB8.out.trans (hb9.mono HB8.out.size)); clear ho3 hb9 hn3
      go_wp2_with fail
      refine (HS2.out w9 (HE.out.up HB9.out (Nat.le_refl _))).mono ?_
      rintro e w10 ⟨sp4, n4, cp4, rfl, hn4, ho4, hb10⟩
      have HX110 := Lib.hid (HX19.out.up hb10 (Nat.le_refl _))
      have HY10 := Lib.hid (HY9.out.up hb10 (Nat.le_refl _))
      have HZ10 := Lib.hid (ho4.ens hn4.symm)
      have HB10 := Lib.hid (HB9.out.trans (hb10.mono HB9.out.size)); clear ho4 hb10 hn4
      have hq2 := sameE_any sp3 n3 cp3 q sp4 n4 cp4 q w10 HY10.out HZ10.out (by have h1 := HY10.out.len; have h2 := HQL.out; omega)
      rw [decide_eq_true rfl] at hq2
      have HQ2 := Lib.hid hq2; clear hq2
      go_wp2_with fail
      refine HQ2.out.mono ?_
      rintro e w11 ⟨rfl, hb11⟩
      have HX111 := Lib.hid (HX110.out.up hb11 (Nat.le_refl _))
      have HB11 := Lib.hid (HB10.out.trans (hb11.mono HB10.out.size)); clear hb11
      have hcd := HCD.out
      clear HCD hne
      rcases hcd with ⟨rfl, hvl⟩ | rfl
      · have hvv := Valid_any sp1 n1 cp1 m w11 HX111.out (by have := HX111.out.len; omega)
        rw [hvl] at hvv
        have HVV := Lib.hid hvv; clear hvv hvl
        go_wp2_with fail
        refine HVV.out.mono ?_
        rintro e w12 ⟨rfl, hb12⟩
        have HB12 := Lib.hid (HB11.out.trans (hb12.mono HB11.out.size)); clear hb12
        go_wp2_with fail
        go_roundw
        case rel => exact ⟨k + 1, by omega, by go_num, HB12.out⟩
        case measure => simp [intOf]; omega
      · go_wp2_with fail
        go_roundw
        case rel => exact ⟨k + 1, by omega, by go_num, HB11.out⟩
        case measure => simp [intOf]; omega
    · obtain rfl : k = 2 := by omega
      have hd : decide (((2 : Nat) : Int) < 2) = false := by simp
      go_wp2_with fail
      refine (awake4_any wr).mono ?_
      rintro e w10 ⟨rfl, hb10⟩
      have HB10 := Lib.hid (HB5.out.trans ((hbe.out.trans (hb10.mono hbe.out.size)).mono HB5.out.size)); clear hb10
      go_wp2_with fail
      go_ret
      exact ⟨rfl, HB10.out⟩
end Go.Proofs.YtkookkhlgllneaaDoor
