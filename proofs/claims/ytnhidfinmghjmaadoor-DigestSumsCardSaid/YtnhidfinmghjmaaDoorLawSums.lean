/-
  The walk of the statement DigestSums: it returns true for every argument that reads as a slice of bytes (the table of constants reads as it is laid).
-/
import Derived.Test.YtnhidfinmghjmaaDoorRefC
import Derived.Test.YtnhidfinmghjmaaDoorShaL
namespace Go.Proofs.YtnhidfinmghjmaaDoor
open Go.RowKit

set_option maxRecDepth 100000 in
set_option maxHeartbeats 1000000 in
theorem sums_any (sp : Option Addr) (n cap : Nat) (b : List Int) (w : World) (hs : Src w w.heap.size sp n cap b) (hnil : sp = none → cap = 0) (hk : KayIn w) (hk0 : 0 < w.heap.size) :
    Calls Tryd.prog 3 #[.slice sp n cap] w fun e w' => e = .returned (.bool true) ∧ Below w.heap.size w w' := by
  by_cases hbig : 5000 < n
  · clear hs hk hnil
    have hd : decide ((n : Int) > 5000) = true := by simp; omega
    go_enter Tryd.func3, Tryd.ntmps3
    go_wp2
    go_ret
    exact ⟨rfl, Below.refl _ _⟩
  · have hd : decide ((n : Int) > 5000) = false := by simp; omega
    have hcA : ∀ w5, Below w.heap.size w w5 → Calls Tryd.prog 8 #[] w5 fun e w' => e = .returned (.bool true) ∧ Below w.heap.size w w' := fun w5 hb5 =>
      (awake_any w5 (hk.below hb5 hk0) (by have := hb5.size; omega)).mono fun e w' ⟨he, hb⟩ => ⟨he, hb5.trans (hb.mono hb5.size)⟩
    have hcS : ∀ w5, Below w.heap.size w w5 → Calls Tryd.prog 9 #[.slice sp n cap] w5 fun e w' => e = .returned (.agg (dg b)) ∧ Below w.heap.size w w' := fun w5 hb5 =>
      (Sum_any sp n cap b w5 ((hs.below hb5 (Nat.le_refl _)).more hb5.size) (hk.below hb5 hk0) (by have := hb5.size; omega) (by omega)).mono fun e w' ⟨he, hb⟩ => ⟨he, hb5.trans (hb.mono hb5.size)⟩
    have hcR : ∀ w5, Below w.heap.size w w5 → Calls Tryd.prog 10 #[.slice sp n cap] w5 fun e w' => e = .returned (.agg (dg b)) ∧ Below w.heap.size w w' := fun w5 hb5 =>
      (refSum_any sp n cap b w5 ((hs.below hb5 (Nat.le_refl _)).more hb5.size) hnil (by omega)).mono fun e w' ⟨he, hb⟩ => ⟨he, hb5.trans (hb.mono hb5.size)⟩
    have HCA := Lib.hid hcA; have HCS := Lib.hid hcS; have HCR := Lib.hid hcR
    have heq := eql_dg b
    have hb0 : Below w.heap.size w w := Below.refl _ _
    clear hs hnil hk hk0 hcA hcS hcR
    go_enter Tryd.func3, Tryd.ntmps3
    go_wp2_with fail
    refine (HCA.out _ hb0).mono ?_
    rintro e w5 ⟨rfl, hb5⟩
    go_wp2_with fail
    refine (HCS.out _ hb5).mono ?_
    rintro e w6 ⟨rfl, hb6⟩
    go_wp2_with fail
    refine (HCR.out _ hb6).mono ?_
    rintro e w7 ⟨rfl, hb7⟩
    go_wp2
    go_ret
    exact ⟨rfl, hb7⟩
end Go.Proofs.YtnhidfinmghjmaaDoor
