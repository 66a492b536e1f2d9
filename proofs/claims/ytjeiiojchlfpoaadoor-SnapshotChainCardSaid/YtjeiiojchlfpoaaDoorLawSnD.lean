/-
  The walk of the statement SnapshotDiffs (conditions: digests of 32 bytes).
-/
import Derived.Test.YtjeiiojchlfpoaaDoorSnT
import Derived.Test.YtjeiiojchlfpoaaDoorTapF
import Derived.Test.YtjeiiojchlfpoaaDoorLawSnC
namespace Go.Proofs.YtjeiiojchlfpoaaDoor
open Go.RowKit

/-- a slice of numbers below block B -/
structure IntsT (w : World) (B : Nat) (sp : Option Addr) (n cap : Nat) (l : List Int) : Prop where
  len : l.length = n
  cells : 0 < n → ∃ b off, sp = some ⟨b, off, none⟩ ∧ b < B ∧ n ≤ cap ∧ ∀ i v, l[i]? = some v → w.cell? ⟨b, off + i, none⟩ = some (.int .i64 v)
  wide : ∀ v ∈ l, -9223372036854775808 ≤ v ∧ v ≤ 9223372036854775807
  short : n ≤ 9223372036854775807
theorem IntsT.tape {w : World} {sp : Option Addr} {n cap : Nat} {l : List Int} (h : IntsT w w.heap.size sp n cap l) : TpIn (w.alloc (.cells #[.slice sp n cap, .int .i64 0] 43)) w.heap.size sp n cap l 0 :=
  ⟨heap_alloc_new w _, h.len, fun hn => by
    obtain ⟨b, off, e, hlt, hc, hr⟩ := h.cells hn
    exact ⟨b, off, e, hlt, hc, fun i v hi => (((Below.refl w.heap.size w).alloc (Nat.le_refl _) _).cell (p := ⟨b, off + i, none⟩) hlt).trans (hr i v hi)⟩, h.wide, h.short⟩
theorem buildTp (v : Value) (hv : ∃ sp n cap, v = .slice sp n cap) (w : World) : (Instr.build 43 #[(0, v)]).run Tryd.prog w = .ok (.agg #[v, .int .i64 0]) w := by
  obtain ⟨sp, n, cap, rfl⟩ := hv
  kernel_rfl
theorem fold_insF_len {α β : Type} (g : β → ByteArray) (h : α → Option β) : ∀ (l : List α) (out : List β), (l.foldl (insF g h) out).length ≤ out.length + l.length
  | [], out => Nat.le_refl _
  | x :: l, out => by
    rw [List.foldl_cons]
    have h1 := fold_insF_len g h l (insF g h out x)
    have h2 : (insF g h out x).length ≤ out.length + 1 := by
      unfold insF
      split
      · omega
      · rw [length_ins]; omega
    rw [List.length_cons]; omega
theorem sDiff_short (a b : List En) : (vC (sDiff a b)).1.length ≤ 1000 := by
  rw [← sRDiff_eq]
  unfold sRDiff
  split
  · rename_i h
    rw [Bool.and_eq_true] at h
    have h1 := (vldE_parts h.1).1
    have h2 := (vldE_parts h.2).1
    show (rdif a b).length ≤ 1000
    unfold rdif
    have h3 := fold_insF_len Cg.p (hD2 a) b (a.foldl (insF Cg.p (hD1 b)) [])
    have h4 := fold_insF_len Cg.p (hD1 b) a []
    simp only [List.length_nil] at h4
    omega
  · simp [vC]
set_option maxRecDepth 100000 in
set_option maxHeartbeats 1000000 in
theorem snapshotDiffs_any (spa : Option Addr) (na ca : Nat) (a : List En) (spb : Option Addr) (nb cb : Nat) (b : List En) (spt : Option Addr) (nt ct : Nat) (lt : List Int) (w : World)
    (ha : EnsIn w w.heap.size spa na ca a) (hb : EnsIn w w.heap.size spb nb cb b) (ht : IntsT w w.heap.size spt nt ct lt) :
    Calls Tryd.prog 6 #[.slice spa na ca, .slice spb nb cb, .slice spt nt ct] w fun e w' => e = .returned (.bool true) ∧ Below w.heap.size w w' := by
  have HA := Lib.hid ha; have HBb := Lib.hid hb; have HTP := Lib.hid ht.tape; clear ha hb ht
  by_cases h1 : na ≤ 200
  case neg =>
    have hf := light4_any spa na ca w
    rw [decide_eq_false h1] at hf
    have HF := Lib.hid hf; clear hf h1
    go_enter Tryd.func6, Tryd.ntmps6
    go_wp2_with fail
    refine HF.out.mono ?_
    rintro e w1 ⟨rfl, rfl⟩
    go_wp2_with fail
    go_ret
    exact ⟨rfl, Below.refl _ _⟩
  have hf := light4_any spa na ca w
  rw [decide_eq_true h1] at hf
  have HF := Lib.hid hf; clear hf
  by_cases h2 : nb ≤ 200
  case neg =>
    have hg := light4_any spb nb cb w
    rw [decide_eq_false h2] at hg
    have HG := Lib.hid hg; clear hg h1 h2
    go_enter Tryd.func6, Tryd.ntmps6
    go_wp2_with fail
    refine HF.out.mono ?_
    rintro e w1 ⟨rfl, rfl⟩
    go_wp2_with fail
    refine HG.out.mono ?_
    rintro e w1 ⟨rfl, rfl⟩
    go_wp2_with fail
    go_ret
    exact ⟨rfl, Below.refl _ _⟩
  have hg := light4_any spb nb cb w
  rw [decide_eq_true h2] at hg
  have HG := Lib.hid hg; clear hg
  have HD := Lib.hid (fun (s1 : Option Addr) (m1 c1 : Nat) (x : List En) (s2 : Option Addr) (m2 c2 : Nat) (y : List En) w1 (h1 : EnsIn w1 w1.heap.size s1 m1 c1 x) (h2 : EnsIn w1 w1.heap.size s2 m2 c2 y) (k1 : m1 ≤ 100000) (k2 : m2 ≤ 100000) => (Diff_any s1 m1 c1 x s2 m2 c2 y w1 h1 h2 k1 k2).mono fun e w' h => h.uni)
  have HR := Lib.hid (fun (s1 : Option Addr) (m1 c1 : Nat) (x : List En) (s2 : Option Addr) (m2 c2 : Nat) (y : List En) w1 (h1 : EnsIn w1 w1.heap.size s1 m1 c1 x) (h2 : EnsIn w1 w1.heap.size s2 m2 c2 y) (k1 : m1 ≤ 100000) (k2 : m2 ≤ 100000) => (refDiff_any s1 m1 c1 x s2 m2 c2 y w1 h1 h2 k1 k2).mono fun e w' h => (show ResC w1 (sDiff x y) e w' by rw [← sRDiff_eq]; exact h).uni)
  have hs1 := sDiff_short a b
  have HB0 := Lib.hid ((Below.refl w.heap.size w).alloc (Nat.le_refl _) (.cells #[.slice spt nt ct, .int .i64 0] 43))
  go_enter Tryd.func6, Tryd.ntmps6
  go_wp2_with fail
  refine HF.out.mono ?_
  rintro e w1 ⟨rfl, rfl⟩
  go_wp2_with fail
  refine HG.out.mono ?_
  rintro e w1 ⟨rfl, rfl⟩
  go_wp2_with (refine wpList_build_eq rfl 43 [(0, .tmp 26)] rfl [(0, .slice spt nt ct)] rfl _ (buildTp _ ⟨_, _, _, rfl⟩ _) ?_)
  generalize hw0 : World.alloc w _ = w0
  have htp : Tp w0 w.heap.size 1000 := by rw [← hw0]; exact ⟨_, _, _, _, _, HTP.out, by omega⟩
  have hb0 : Below w.heap.size w w0 := by rw [← hw0]; exact HB0.out
  have HT0 := Lib.hid htp; have HBL0 := Lib.hid hb0
  have htl := htp.lt
  clear hw0 htp hb0
  refine (snapshot_any w.heap.size 6 100 w0 (HT0.out.le (by omega)) (by omega)).mono ?_
  rintro e w1 ⟨spc, nc, cc, c, rfl, hec, hac, hsc, hnc, ht1, hu1⟩
  have HEC := Lib.hid hec; have HAC := Lib.hid hac; have HSC := Lib.hid hsc; have HT1 := Lib.hid ht1
  have HB1 := Lib.hid (HBL0.out.trans (hu1.below (Nat.le_refl _) htl))
  clear hec hac hsc ht1 hu1
  have htl1 := HT1.out.lt
  go_wp2_with fail
  refine (edit_any w.heap.size 50 spc nc cc c w1 (HT1.out.le (by omega)) HEC.out HAC.out HSC.out (by omega)).mono ?_
  rintro e w2 ⟨spd, nd, cd, d, rfl, hed, had, hsd, hnd, ht2, hu2⟩
  have HEC2 := Lib.hid (HEC.out.turn HAC.out hu2); have HED := Lib.hid hed
  have HB2 := Lib.hid (HB1.out.trans (hu2.below (Nat.le_refl _) htl1))
  clear hed had hsd ht2 hu2
  have hs2 := sDiff_short c d
  obtain ⟨r1, hr1⟩ : ∃ r, vC (sDiff a b) = r := ⟨_, rfl⟩
  obtain ⟨r2, hr2⟩ : ∃ r, vC (sDiff c d) = r := ⟨_, rfl⟩
  have HD1 := HD.out spa na ca a spb nb cb b
  have HR1 := HR.out spa na ca a spb nb cb b
  have HD2 := HD.out spc nc cc c spd nd cd d
  have HR2 := HR.out spc nc cc c spd nd cd d
  rw [hr1] at HD1 HR1 hs1
  rw [hr2] at HD2 HR2 hs2
  obtain ⟨l, k⟩ := r1
  obtain ⟨m, j⟩ := r2
  simp only at hs1 hs2 HD1 HR1 HD2 HR2
  have HD1 := Lib.hid HD1; have HR1 := Lib.hid HR1; have HD2 := Lib.hid HD2; have HR2 := Lib.hid HR2
  clear hr1 hr2
  go_wp2_with fail
  refine (HD1.out w2 (HA.out.up HB2.out (Nat.le_refl _)) (HBb.out.up HB2.out (Nat.le_refl _)) (by omega) (by omega)).mono ?_
  rintro e w3 ⟨sp1, n1, cp1, rfl, hx1, hb3⟩
  have HX1 := Lib.hid hx1; have HC3 := Lib.hid (HEC2.out.up hb3 (Nat.le_refl _)); have HD3 := Lib.hid (HED.out.up hb3 (Nat.le_refl _))
  have HB3 := Lib.hid (HB2.out.trans (hb3.mono HB2.out.size)); clear hx1 hb3
  go_wp2_with fail
  refine (HR1.out w3 (HA.out.up HB3.out (Nat.le_refl _)) (HBb.out.up HB3.out (Nat.le_refl _)) (by omega) (by omega)).mono ?_
  rintro e w4 ⟨sp2, n2, cp2, rfl, hx2, hb4⟩
  have HX14 := Lib.hid (HX1.out.up hb4 (Nat.le_refl _)); have HX2 := Lib.hid hx2
  have HC4 := Lib.hid (HC3.out.up hb4 (Nat.le_refl _)); have HD4 := Lib.hid (HD3.out.up hb4 (Nat.le_refl _))
  have HB4 := Lib.hid (HB3.out.trans (hb4.mono HB3.out.size)); clear hx2 hb4
  go_wp2_with fail
  refine (HD2.out w4 HC4.out HD4.out (by omega) (by omega)).mono ?_
  rintro e w5 ⟨sp3, n3, cp3, rfl, hx3, hb5⟩
  have HX15 := Lib.hid (HX14.out.up hb5 (Nat.le_refl _)); have HX25 := Lib.hid (HX2.out.up hb5 (Nat.le_refl _)); have HX3 := Lib.hid hx3
  have HC5 := Lib.hid (HC4.out.up hb5 (Nat.le_refl _)); have HD5 := Lib.hid (HD4.out.up hb5 (Nat.le_refl _))
  have HB5 := Lib.hid (HB4.out.trans (hb5.mono HB4.out.size)); clear hx3 hb5
  go_wp2_with fail
  refine (HR2.out w5 HC5.out HD5.out (by omega) (by omega)).mono ?_
  rintro e w6 ⟨sp4, n4, cp4, rfl, hx4, hb6⟩
  have HX16 := Lib.hid (HX15.out.up hb6 (Nat.le_refl _)); have HX26 := Lib.hid (HX25.out.up hb6 (Nat.le_refl _)); have HX36 := Lib.hid (HX3.out.up hb6 (Nat.le_refl _)); have HX4 := Lib.hid hx4
  have HB6 := Lib.hid (HB5.out.trans (hb6.mono HB5.out.size)); clear hx4 hb6
  go_wp2_with fail
  refine (awake4_any w6).mono ?_
  rintro e w7 ⟨rfl, hb7⟩
  have HX17 := Lib.hid (HX16.out.up hb7 (Nat.le_refl _)); have HX27 := Lib.hid (HX26.out.up hb7 (Nat.le_refl _)); have HX37 := Lib.hid (HX36.out.up hb7 (Nat.le_refl _)); have HX47 := Lib.hid (HX4.out.up hb7 (Nat.le_refl _))
  have HB7 := Lib.hid (HB6.out.trans (hb7.mono HB6.out.size)); clear hb7
  have hq1 := sameC_any sp1 n1 cp1 l sp2 n2 cp2 l w7 HX17.out HX27.out (by have := HX17.out.len; omega)
  rw [decide_eq_true rfl] at hq1
  have HQ1 := Lib.hid hq1; clear hq1
  go_wp2_with fail
  refine HQ1.out.mono ?_
  rintro e w8 ⟨rfl, hb8⟩
  have HX38 := Lib.hid (HX37.out.up hb8 (Nat.le_refl _)); have HX48 := Lib.hid (HX47.out.up hb8 (Nat.le_refl _))
  have HB8 := Lib.hid (HB7.out.trans (hb8.mono HB7.out.size)); clear hb8
  have hq2 := sameC_any sp3 n3 cp3 m sp4 n4 cp4 m w8 HX38.out HX48.out (by have := HX38.out.len; omega)
  rw [decide_eq_true rfl] at hq2
  have HQ2 := Lib.hid hq2; clear hq2
  go_wp2_with fail
  refine HQ2.out.mono ?_
  rintro e w9 ⟨rfl, hb9⟩
  have HB9 := Lib.hid (HB8.out.trans (hb9.mono HB8.out.size)); clear hb9
  go_wp2_with fail
  go_ret
  exact ⟨rfl, HB9.out⟩
end Go.Proofs.YtjeiiojchlfpoaaDoor
