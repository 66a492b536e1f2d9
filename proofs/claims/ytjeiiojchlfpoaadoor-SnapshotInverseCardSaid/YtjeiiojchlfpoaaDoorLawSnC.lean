/-
  The walk of the statement SnapshotComposes (conditions: digests of 32 bytes).
-/
import Derived.Test.YtjeiiojchlfpoaaDoorSnR
namespace Go.Proofs.YtjeiiojchlfpoaaDoor
open Go.RowKit

/-- what a result holds -/
def vC : Except Int (List Cg) → List Cg × Int
  | .error k => ([], k)
  | .ok l => (l, 0)
theorem ResC.uni {w w' : World} {r : Except Int (List Cg)} {e : Ending} (h : ResC w r e w') : ∃ sp n cap, e = .returned (.tuple #[.slice sp n cap, .int .i64 (vC r).2]) ∧ CgsIn w' w'.heap.size sp n cap (vC r).1 ∧ Below w.heap.size w w' := by
  cases r with
  | error k =>
    obtain ⟨he, hb⟩ := h
    exact ⟨none, 0, 0, he, ⟨rfl, fun x hx => (by cases hx), fun h => by omega⟩, hb⟩
  | ok l =>
    obtain ⟨sp, cap, he, ho, hb⟩ := h
    exact ⟨sp, l.length, cap, he, ho.cgs rfl, hb⟩
theorem sCompose_short (a b : List Cg) : (vC (sCompose a b)).1.length ≤ 1000 := by
  unfold sCompose
  split
  · cases fol a b with
    | none => simp [finC, vC]
    | some l =>
      show (vC (if 128 < l.length then .error 3 else .ok l)).1.length ≤ 1000
      split
      · simp [vC]
      · simp [vC]; omega
  · simp [vC]
theorem sInvert_short (l : List Cg) : (vC (sInvert l)).1.length ≤ 1000 := by
  unfold sInvert
  split
  · rename_i h
    have := (vldC_parts h).1
    simp [vC, inv]; omega
  · simp [vC]
set_option maxRecDepth 100000 in
set_option maxHeartbeats 1000000 in
theorem snapshotComposes_any (spa : Option Addr) (na ca : Nat) (a : List Cg) (spb : Option Addr) (nb cb : Nat) (b : List Cg) (w : World) (ha : CgsIn w w.heap.size spa na ca a) (hb : CgsIn w w.heap.size spb nb cb b) :
    Calls Tryd.prog 8 #[.slice spa na ca, .slice spb nb cb] w fun e w' => e = .returned (.bool true) ∧ Below w.heap.size w w' := by
  have HA := Lib.hid ha; have HBb := Lib.hid hb; clear ha hb
  by_cases h1 : na ≤ 300
  case neg =>
    have hf := few_any spa na ca w
    rw [decide_eq_false h1] at hf
    have HF := Lib.hid hf; clear hf h1
    go_enter Tryd.func8, Tryd.ntmps8
    go_wp2_with fail
    refine HF.out.mono ?_
    rintro e w1 ⟨rfl, rfl⟩
    go_wp2_with fail
    go_ret
    exact ⟨rfl, Below.refl _ _⟩
  have hf := few_any spa na ca w
  rw [decide_eq_true h1] at hf
  have HF := Lib.hid hf; clear hf
  by_cases h2 : nb ≤ 300
  case neg =>
    have hg := few_any spb nb cb w
    rw [decide_eq_false h2] at hg
    have HG := Lib.hid hg; clear hg h1 h2
    go_enter Tryd.func8, Tryd.ntmps8
    go_wp2_with fail
    refine HF.out.mono ?_
    rintro e w1 ⟨rfl, rfl⟩
    go_wp2_with fail
    refine HG.out.mono ?_
    rintro e w1 ⟨rfl, rfl⟩
    go_wp2_with fail
    go_ret
    exact ⟨rfl, Below.refl _ _⟩
  have hg := few_any spb nb cb w
  rw [decide_eq_true h2] at hg
  have HG := Lib.hid hg; clear hg
  have hs1 := sCompose_short a b
  have hs2 := sInvert_short a
  have HC1 := Lib.hid (fun w1 (ha : CgsIn w1 w1.heap.size spa na ca a) (hb : CgsIn w1 w1.heap.size spb nb cb b) => (Compose_any spa na ca a spb nb cb b w1 ha hb (by omega) (by omega)).mono fun e w' h => h.uni)
  have hc2 := fun w1 (ha : CgsIn w1 w1.heap.size spa na ca a) (hb : CgsIn w1 w1.heap.size spb nb cb b) => (refCompose_any spa na ca a spb nb cb b w1 ha hb (by omega) (by omega)).mono fun e w' h => h.uni
  rw [sRCompose_eq] at hc2
  have HC2 := Lib.hid hc2; clear hc2
  have HI1 := Lib.hid (fun w1 (ha : CgsIn w1 w1.heap.size spa na ca a) => (Invert_any spa na ca a w1 ha (by omega)).mono fun e w' h => h.uni)
  have HI2 := Lib.hid (fun w1 (ha : CgsIn w1 w1.heap.size spa na ca a) => (refInvert_any spa na ca a w1 ha (by omega)).mono fun e w' h => h.uni)
  generalize vC (sCompose a b) = rc at *
  generalize vC (sInvert a) = ri at *
  obtain ⟨l, k⟩ := rc
  obtain ⟨m, j⟩ := ri
  simp only at hs1 hs2 HC1 HC2 HI1 HI2
  clear h1 h2
  go_enter Tryd.func8, Tryd.ntmps8
  go_wp2_with fail
  refine HF.out.mono ?_
  rintro e w1 ⟨rfl, rfl⟩
  go_wp2_with fail
  refine HG.out.mono ?_
  rintro e w1 ⟨rfl, rfl⟩
  go_wp2_with fail
  refine (HC1.out w HA.out HBb.out).mono ?_
  rintro e w1 ⟨sp1, n1, cp1, rfl, hx1, hb1⟩
  have HX1 := Lib.hid hx1; have HB1 := Lib.hid hb1; clear hx1 hb1
  go_wp2_with fail
  refine (HC2.out w1 (HA.out.up HB1.out (Nat.le_refl _)) (HBb.out.up HB1.out (Nat.le_refl _))).mono ?_
  rintro e w2 ⟨sp2, n2, cp2, rfl, hx2, hb2⟩
  have HX12 := Lib.hid (HX1.out.up hb2 (Nat.le_refl _))
  have HX2 := Lib.hid hx2; have HB2 := Lib.hid (HB1.out.trans (hb2.mono HB1.out.size)); clear hx2 hb2
  go_wp2_with fail
  refine (HI1.out w2 (HA.out.up HB2.out (Nat.le_refl _))).mono ?_
  rintro e w3 ⟨sp3, n3, cp3, rfl, hx3, hb3⟩
  have HX13 := Lib.hid (HX12.out.up hb3 (Nat.le_refl _)); have HX23 := Lib.hid (HX2.out.up hb3 (Nat.le_refl _))
  have HX3 := Lib.hid hx3; have HB3 := Lib.hid (HB2.out.trans (hb3.mono HB2.out.size)); clear hx3 hb3
  go_wp2_with fail
  refine (HI2.out w3 (HA.out.up HB3.out (Nat.le_refl _))).mono ?_
  rintro e w4 ⟨sp4, n4, cp4, rfl, hx4, hb4⟩
  have HX14 := Lib.hid (HX13.out.up hb4 (Nat.le_refl _)); have HX24 := Lib.hid (HX23.out.up hb4 (Nat.le_refl _)); have HX34 := Lib.hid (HX3.out.up hb4 (Nat.le_refl _))
  have HX4 := Lib.hid hx4; have HB4 := Lib.hid (HB3.out.trans (hb4.mono HB3.out.size)); clear hx4 hb4
  go_wp2_with fail
  refine (awake4_any w4).mono ?_
  rintro e w5 ⟨rfl, hb5⟩
  have HX15 := Lib.hid (HX14.out.up hb5 (Nat.le_refl _)); have HX25 := Lib.hid (HX24.out.up hb5 (Nat.le_refl _)); have HX35 := Lib.hid (HX34.out.up hb5 (Nat.le_refl _)); have HX45 := Lib.hid (HX4.out.up hb5 (Nat.le_refl _))
  have HB5 := Lib.hid (HB4.out.trans (hb5.mono HB4.out.size)); clear hb5
  have hq1 := sameC_any sp1 n1 cp1 l sp2 n2 cp2 l w5 HX15.out HX25.out (by have := HX15.out.len; omega)
  rw [decide_eq_true rfl] at hq1
  have HQ1 := Lib.hid hq1; clear hq1
  go_wp2_with fail
  refine HQ1.out.mono ?_
  rintro e w6 ⟨rfl, hb6⟩
  have HX36 := Lib.hid (HX35.out.up hb6 (Nat.le_refl _)); have HX46 := Lib.hid (HX45.out.up hb6 (Nat.le_refl _))
  have HB6 := Lib.hid (HB5.out.trans (hb6.mono HB5.out.size)); clear hb6
  have hq2 := sameC_any sp3 n3 cp3 m sp4 n4 cp4 m w6 HX36.out HX46.out (by have := HX36.out.len; omega)
  rw [decide_eq_true rfl] at hq2
  have HQ2 := Lib.hid hq2; clear hq2
  go_wp2_with fail
  refine HQ2.out.mono ?_
  rintro e w7 ⟨rfl, hb7⟩
  have HB7 := Lib.hid (HB6.out.trans (hb7.mono HB6.out.size)); clear hb7
  go_wp2_with fail
  go_ret
  exact ⟨rfl, HB7.out⟩
end Go.Proofs.YtjeiiojchlfpoaaDoor
