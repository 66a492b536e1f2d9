/-
  The walks of strings.Contains (a separator of one byte) and of the sanity check of the statements of layer 3.
-/
import Derived.Test.YtmafefdchglpbaaDoorPatH
namespace Go.Proofs.YtmafefdchglpbaaDoor
open Go.RowKit

def wkP : ByteArray := ⟨#[115, 114, 99, 47, 42, 46, 99]⟩
def wkA : ByteArray := ⟨#[115, 114, 99, 47, 97, 46, 99]⟩
def wkB : ByteArray := ⟨#[115, 114, 99, 47, 120, 47, 97, 46, 99]⟩
def wkC : ByteArray := ⟨#[97, 47, 98]⟩
theorem wk1 : mtB wkP wkA = true := by decide +kernel
theorem wk2 : mtB wkP wkB = false := by decide +kernel
theorem wk3 : pathB wkC = true := by decide +kernel
set_option maxHeartbeats 1000000 in
theorem awakeP_any (w : World) :
    Calls Tryd.prog 28 #[] w fun e w' => e = .returned (.bool true) ∧ Below w.heap.size w w' := by
  have h1 : ∀ w, Calls Tryd.prog 33 #[.string ⟨#[115, 114, 99, 47, 42, 46, 99]⟩, .string ⟨#[115, 114, 99, 47, 97, 46, 99]⟩] w fun e w' => e = .returned (.bool true) ∧ Below w.heap.size w w' := fun w => (Match_any wkP wkA w).mono fun e w' ⟨he, hb⟩ => ⟨by rw [he, wk1], hb⟩
  have h2 : ∀ w, Calls Tryd.prog 33 #[.string ⟨#[115, 114, 99, 47, 42, 46, 99]⟩, .string ⟨#[115, 114, 99, 47, 120, 47, 97, 46, 99]⟩] w fun e w' => e = .returned (.bool false) ∧ Below w.heap.size w w' := fun w => (Match_any wkP wkB w).mono fun e w' ⟨he, hb⟩ => ⟨by rw [he, wk2], hb⟩
  have h3 : ∀ w, Calls Tryd.prog 29 #[.string ⟨#[97, 47, 98]⟩] w fun e w' => e = .returned (.bool true) ∧ Below w.heap.size w w' := fun w => (Path_any wkC w).mono fun e w' ⟨he, hb⟩ => ⟨by rw [he, wk3], hb⟩
  have H1 := Lib.hid h1; have H2 := Lib.hid h2; have H3 := Lib.hid h3
  clear h1 h2 h3
  go_enter Tryd.func28, Tryd.ntmps28
  go_wp2_with fail
  refine (H1.out _).mono ?_
  rintro e w1 ⟨rfl, hb1⟩
  go_wp2_with fail
  refine (H2.out _).mono ?_
  rintro e w2 ⟨rfl, hb2⟩
  go_wp2_with fail
  refine (H3.out _).mono ?_
  rintro e w3 ⟨rfl, hb3⟩
  go_wp2_with fail
  go_ret
  exact ⟨rfl, (hb1.trans (hb2.mono hb1.size)).trans (hb3.mono (Nat.le_trans hb1.size hb2.size))⟩
end Go.Proofs.YtmafefdchglpbaaDoor
