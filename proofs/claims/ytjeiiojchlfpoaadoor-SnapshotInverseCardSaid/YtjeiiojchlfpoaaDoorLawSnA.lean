/-
  The walk of the statement SnapshotApplies (conditions: digests of 32 bytes).
-/
import Derived.Test.YtjeiiojchlfpoaaDoorSnS
namespace Go.Proofs.YtjeiiojchlfpoaaDoor
open Go.RowKit

/-- what a result holds -/
def vE : Except Int (List En) → List En × Int
  | .error k => ([], k)
  | .ok l => (l, 0)
theorem ResE.uni {w w' : World} {r : Except Int (List En)} {e : Ending} (h : ResE w r e w') : ∃ sp n cap, e = .returned (.tuple #[.slice sp n cap, .int .i64 (vE r).2]) ∧ EnsIn w' w'.heap.size sp n cap (vE r).1 ∧ Below w.heap.size w w' := by
  cases r with
  | error k =>
    obtain ⟨he, hb⟩ := h
    exact ⟨none, 0, 0, he, ⟨rfl, fun x hx => (by cases hx), fun h => by omega⟩, hb⟩
  | ok l =>
    obtain ⟨sp, cap, he, ho, hb⟩ := h
    exact ⟨sp, l.length, cap, he, ho.ens rfl, hb⟩
theorem sApply_short (s : List En) (l : List Cg) : (vE (sApply s l)).1.length ≤ 1000 := by
  rw [← sRApply_eq]
  unfold sRApply
  split
  · cases rapp s l with
    | none => simp [finR, vE]
    | some l =>
      show (vE (if 64 < l.length then .error 3 else .ok l)).1.length ≤ 1000
      split
      · simp [vE]
      · simp [vE]; omega
  · simp [vE]
set_option maxRecDepth 100000 in
set_option maxHeartbeats 1000000 in
theorem snapshotApplies_any (spa : Option Addr) (na ca : Nat) (a : List En) (spb : Option Addr) (nb cb : Nat) (b : List Cg) (w : World) (ha : EnsIn w w.heap.size spa na ca a) (hb : CgsIn w w.heap.size spb nb cb b) :
    Calls Tryd.prog 7 #[.slice spa na ca, .slice spb nb cb] w fun e w' => e = .returned (.bool true) ∧ Below w.heap.size w w' := by
  have HA := Lib.hid ha; have HBb := Lib.hid hb; clear ha hb
  by_cases h1 : na ≤ 200
  case neg =>
    have hf := light4_any spa na ca w
    rw [decide_eq_false h1] at hf
    have HF := Lib.hid hf; clear hf h1
    go_enter Tryd.func7, Tryd.ntmps7
    go_wp2_with fail
    refine HF.out.mono ?_
    rintro e w1 ⟨rfl, rfl⟩
    go_wp2_with fail
    go_ret
    exact ⟨rfl, Below.refl _ _⟩
  have hf := light4_any spa na ca w
  rw [decide_eq_true h1] at hf
  have HF := Lib.hid hf; clear hf
  by_cases h2 : nb ≤ 300
  case neg =>
    have hg := few_any spb nb cb w
    rw [decide_eq_false h2] at hg
    have HG := Lib.hid hg; clear hg h1 h2
    go_enter Tryd.func7, Tryd.ntmps7
    go_wp2_with fail
    refine HF.out.mono ?_
    rintro e w1 ⟨rfl, rfl⟩
    go_wp2_with fail
    refine HG.out.mono ?_
    rintro e w1 ⟨rfl, rfl⟩
    go_wp2_with fail
    go_ret
    exact ⟨rfl, Below.refl _ _⟩
  have hg := few_any spb nb cb w
  rw [decide_eq_true h2] at hg
  have HG := Lib.hid hg; clear hg
  have hs1 := sApply_short a b
  have HC1 := Lib.hid (fun w1 (ha : EnsIn w1 w1.heap.size spa na ca a) (hb : CgsIn w1 w1.heap.size spb nb cb b) => (Apply_any spa na ca a spb nb cb b w1 ha hb (by omega) (by omega)).mono fun e w' h => h.uni)
  have hc2 := fun w1 (ha : EnsIn w1 w1.heap.size spa na ca a) (hb : CgsIn w1 w1.heap.size spb nb cb b) => (refApply_any spa na ca a spb nb cb b w1 ha hb (by omega) (by omega)).mono fun e w' h => h.uni
  rw [sRApply_eq] at hc2
  have HC2 := Lib.hid hc2; clear hc2
  generalize vE (sApply a b) = rc at *
  obtain ⟨l, k⟩ := rc
  simp only at hs1 HC1 HC2
  clear h1 h2
  go_enter Tryd.func7, Tryd.ntmps7
  go_wp2_with fail
  refine HF.out.mono ?_
  rintro e w1 ⟨rfl, rfl⟩
  go_wp2_with fail
  refine HG.out.mono ?_
  rintro e w1 ⟨rfl, rfl⟩
  go_wp2_with fail
  refine (HC1.out w HA.out HBb.out).mono ?_
  rintro e w1 ⟨sp1, n1, cp1, rfl, hx1, hb1⟩
  have HX1 := Lib.hid hx1; have HB1 := Lib.hid hb1; clear hx1 hb1
  go_wp2_with fail
  refine (HC2.out w1 (HA.out.up HB1.out (Nat.le_refl _)) (HBb.out.up HB1.out (Nat.le_refl _))).mono ?_
  rintro e w2 ⟨sp2, n2, cp2, rfl, hx2, hb2⟩
  have HX12 := Lib.hid (HX1.out.up hb2 (Nat.le_refl _))
  have HX2 := Lib.hid hx2; have HB2 := Lib.hid (HB1.out.trans (hb2.mono HB1.out.size)); clear hx2 hb2
  go_wp2_with fail
  refine (awake4_any w2).mono ?_
  rintro e w5 ⟨rfl, hb5⟩
  have HX15 := Lib.hid (HX12.out.up hb5 (Nat.le_refl _)); have HX25 := Lib.hid (HX2.out.up hb5 (Nat.le_refl _))
  have HB5 := Lib.hid (HB2.out.trans (hb5.mono HB2.out.size)); clear hb5
  have hq1 := sameE_any sp1 n1 cp1 l sp2 n2 cp2 l w5 HX15.out HX25.out (by have := HX15.out.len; omega)
  rw [decide_eq_true rfl] at hq1
  have HQ1 := Lib.hid hq1; clear hq1
  go_wp2_with fail
  refine HQ1.out.mono ?_
  rintro e w6 ⟨rfl, hb6⟩
  have HB6 := Lib.hid (HB5.out.trans (hb6.mono HB5.out.size)); clear hb6
  go_wp2_with fail
  go_ret
  exact ⟨rfl, HB6.out⟩
end Go.Proofs.YtjeiiojchlfpoaaDoor
