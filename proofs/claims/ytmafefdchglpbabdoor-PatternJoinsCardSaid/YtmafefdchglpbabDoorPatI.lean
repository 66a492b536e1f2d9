/-
  The walks of strings.Contains (a separator of one byte) and of the sanity check of the statements of layer 3.
-/
import Derived.Test.YtmafefdchglpbabDoorPatH
namespace Go.Proofs.YtmafefdchglpbabDoor
open Go.RowKit

set_option maxHeartbeats 400000 in
theorem contains_anyP (s : ByteArray) (w : World) :
    Calls Tryd.prog 14 #[.string s, .string slB] w fun e w' => e = .returned (.bool (decide (Lib.indexB s slB ≥ 0))) ∧ w = w' := by
  go_enter Tryd.func14, Tryd.ntmps14
  go_wp2_with (go_at_call 25; refine (index_anyP _ _).mono ?_; rintro e w' ⟨rfl, rfl⟩)
  go_ret
  exact ⟨rfl, rfl⟩
def wkP : ByteArray := ⟨#[115, 114, 99, 47, 42, 46, 99]⟩
def wkA : ByteArray := ⟨#[115, 114, 99, 47, 97, 46, 99]⟩
def wkB : ByteArray := ⟨#[115, 114, 99, 47, 120, 47, 97, 46, 99]⟩
def wkC : ByteArray := ⟨#[97, 47, 98]⟩
theorem wk1 : mtB wkP wkA = true := by decide +kernel
theorem wk2 : mtB wkP wkB = false := by decide +kernel
theorem wk3 : pathB wkC = true := by decide +kernel
set_option maxHeartbeats 1000000 in
theorem awakeP_any (w : World) :
    Calls Tryd.prog 11 #[] w fun e w' => e = .returned (.bool true) ∧ Below w.heap.size w w' := by
  have h1 : ∀ w, Calls Tryd.prog 12 #[.string ⟨#[115, 114, 99, 47, 42, 46, 99]⟩, .string ⟨#[115, 114, 99, 47, 97, 46, 99]⟩] w fun e w' => e = .returned (.bool true) ∧ Below w.heap.size w w' := fun w => (Match_any wkP wkA w).mono fun e w' ⟨he, hb⟩ => ⟨by rw [he, wk1], hb⟩
  have h2 : ∀ w, Calls Tryd.prog 12 #[.string ⟨#[115, 114, 99, 47, 42, 46, 99]⟩, .string ⟨#[115, 114, 99, 47, 120, 47, 97, 46, 99]⟩] w fun e w' => e = .returned (.bool false) ∧ Below w.heap.size w w' := fun w => (Match_any wkP wkB w).mono fun e w' ⟨he, hb⟩ => ⟨by rw [he, wk2], hb⟩
  have h3 : ∀ w, Calls Tryd.prog 9 #[.string ⟨#[97, 47, 98]⟩] w fun e w' => e = .returned (.bool true) ∧ Below w.heap.size w w' := fun w => (Path_any wkC w).mono fun e w' ⟨he, hb⟩ => ⟨by rw [he, wk3], hb⟩
  have H1 := Lib.hid h1; have H2 := Lib.hid h2; have H3 := Lib.hid h3
  clear h1 h2 h3
  go_enter Tryd.func11, Tryd.ntmps11
  go_wp2_with fail
  refine (H1.out _).mono ?_
  rintro e w1 ⟨rfl, hb1⟩
  go_wp2_with fail
  refine (H2.out _).mono ?_
  rintro e w2 ⟨rfl, hb2⟩
  go_wp2_with fail
  refine (H3.out _).mono ?_
  rintro e w3 ⟨rfl, hb3⟩
  go_wp2_with fail
  go_ret
  exact ⟨rfl, (hb1.trans (hb2.mono hb1.size)).trans (hb3.mono (Nat.le_trans hb1.size hb2.size))⟩
end Go.Proofs.YtmafefdchglpbabDoor
