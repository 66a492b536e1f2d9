/-
  Versions: the walk of the statements' check (awake).
-/
import Derived.Test.YtceeilojcifgeaaGreatDoorVerR
namespace Go.Proofs.YtceeilojcifgeaaGreatDoor
open Go.RowKit

theorem cmp_aw1 : cmpR 1 [49, 46, 48, 46, 48, 45, 114, 99, 46, 49] [49, 46, 48, 46, 48] = (-1, 0) := by decide +kernel
theorem cmp_aw2 : cmpR 2 [49, 46, 48, 126, 114, 99, 49] [49, 46, 48] = (-1, 0) := by decide +kernel
theorem cmp_aw3 : cmpR 3 [49, 46, 50] [49, 46, 49, 48] = (-1, 0) := by decide +kernel
theorem aw_call (s : Int) (a b : BL) (A C : ByteArray) (hA : bs a = A) (hC : bs b = C) (h : cmpR s a b = (-1, 0)) (w : World) :
    Calls Tryz.prog 8 #[.int .i64 s, .string A, .string C] w fun e w' => e = .returned (.tuple #[.int .i64 (-1), .int .i64 0]) ∧ Below w.heap.size w w' := by
  have := compare_anyV s a b w
  rw [h, hA, hC] at this; exact this
set_option maxRecDepth 100000 in
set_option maxHeartbeats 1000000 in
theorem awake6_any (w : World) : Calls Tryz.prog 10 #[] w fun e w' => e = .returned (.bool true) ∧ Below w.heap.size w w' := by
  have H1 := Lib.hid (fun w => aw_call 1 _ _ ⟨#[49, 46, 48, 46, 48, 45, 114, 99, 46, 49]⟩ ⟨#[49, 46, 48, 46, 48]⟩ rfl rfl cmp_aw1 w)
  have H2 := Lib.hid (fun w => aw_call 2 _ _ ⟨#[49, 46, 48, 126, 114, 99, 49]⟩ ⟨#[49, 46, 48]⟩ rfl rfl cmp_aw2 w)
  have H3 := Lib.hid (fun w => aw_call 3 _ _ ⟨#[49, 46, 50]⟩ ⟨#[49, 46, 49, 48]⟩ rfl rfl cmp_aw3 w)
  go_enter Tryz.func10, Tryz.ntmps10
  go_wp2_with fail
  refine (H1.out _).mono ?_
  rintro e w1 ⟨rfl, b1⟩
  have B1 := Lib.hid b1; clear b1
  go_wp2_with fail
  refine (H2.out _).mono ?_
  rintro e w2 ⟨rfl, b2⟩
  have B2 := Lib.hid (b2.mono B1.out.size)
  have hz := b2.size; clear b2
  go_wp2_with fail
  refine (H3.out _).mono ?_
  rintro e w3 ⟨rfl, b3⟩
  have B3 := Lib.hid (b3.mono (Nat.le_trans B1.out.size hz)); clear b3
  go_wp2_with fail
  go_ret
  exact ⟨rfl, (B1.out.trans B2.out).trans B3.out⟩
end Go.Proofs.YtceeilojcifgeaaGreatDoor
