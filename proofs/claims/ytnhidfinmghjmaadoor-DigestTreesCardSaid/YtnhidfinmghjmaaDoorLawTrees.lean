/-
  The walk of the statement DigestTrees: it returns true for every argument that reads as a list of digests (the table of constants reads as it is laid).
-/
import Derived.Test.YtnhidfinmghjmaaDoorRefE
namespace Go.Proofs.YtnhidfinmghjmaaDoor
open Go.RowKit

set_option maxRecDepth 100000 in
set_option maxHeartbeats 1000000 in
theorem trees_any (da : Option Addr) (n cap : Nat) (l : List (List Int)) (w : World) (hl : DigsIn w w.heap.size da n cap l) (hk : KayIn w) (hk0 : 0 < w.heap.size) :
    Calls Tryd.prog 5 #[.slice da n cap] w fun e w' => e = .returned (.bool true) ∧ Below w.heap.size w w' := by
  by_cases hbig : 200 < n
  · clear hl hk
    have hd : decide ((n : Int) > 200) = true := by simp; omega
    go_enter Tryd.func5, Tryd.ntmps5
    go_wp2
    go_ret
    exact ⟨rfl, Below.refl _ _⟩
  · have hd : decide ((n : Int) > 200) = false := by simp; omega
    have hcA : ∀ w5, Below w.heap.size w w5 → Calls Tryd.prog 8 #[] w5 fun e w' => e = .returned (.bool true) ∧ Below w.heap.size w w' := fun w5 hb5 =>
      (awake_any w5 (hk.below hb5 hk0) (by have := hb5.size; omega)).mono fun e w' ⟨he, hb⟩ => ⟨he, hb5.trans (hb.mono hb5.size)⟩
    have hcS : ∀ w5, Below w.heap.size w w5 → Calls Tryd.prog 15 #[.slice da n cap] w5 fun e w' => e = .returned (.agg (dv (tree l))) ∧ Below w.heap.size w w' := fun w5 hb5 =>
      (Tree_any n da n cap l w5 (Nat.le_refl _) (by omega) ((hl.below hb5 (Nat.le_refl _)).below (Below.refl w5.heap.size w5) hb5.size) (hk.below hb5 hk0) (by have := hb5.size; omega)).mono fun e w' ⟨he, hb⟩ => ⟨he, hb5.trans (hb.mono hb5.size)⟩
    have hcR : ∀ w5, Below w.heap.size w w5 → Calls Tryd.prog 16 #[.slice da n cap] w5 fun e w' => e = .returned (.agg (dv (tree l))) ∧ Below w.heap.size w w' := fun w5 hb5 =>
      (refTree_any n da n cap l w5 (Nat.le_refl _) (by omega) ((hl.below hb5 (Nat.le_refl _)).below (Below.refl w5.heap.size w5) hb5.size)).mono fun e w' ⟨he, hb⟩ => ⟨he, hb5.trans (hb.mono hb5.size)⟩
    have HCA := Lib.hid hcA; have HCS := Lib.hid hcS; have HCR := Lib.hid hcR
    have heq : ∀ w, (binOp .eql 25 (.agg (dv (tree l))) (.agg (dv (tree l)))).run Tryd.prog w = .ok (.bool true) w := fun w => by
      have h := (tree_digs l hl.digs).1
      have := eql_digest (tree l) (tree l) h h w
      simpa [dv] using this
    generalize dv (tree l) = V at *
    have hb0 : Below w.heap.size w w := Below.refl _ _
    clear hl hk hk0 hcA hcS hcR
    go_enter Tryd.func5, Tryd.ntmps5
    go_wp2_with fail
    refine (HCA.out _ hb0).mono ?_
    rintro e w5 ⟨rfl, hb5⟩
    go_wp2_with fail
    refine (HCS.out _ hb5).mono ?_
    rintro e w6 ⟨rfl, hb6⟩
    go_wp2_with fail
    refine (HCR.out _ hb6).mono ?_
    rintro e w7 ⟨rfl, hb7⟩
    go_wp2
    go_ret
    exact ⟨rfl, hb7⟩
end Go.Proofs.YtnhidfinmghjmaaDoor
