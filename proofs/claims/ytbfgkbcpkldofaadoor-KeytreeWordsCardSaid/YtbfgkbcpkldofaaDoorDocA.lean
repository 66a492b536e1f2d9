/-
  The walks of small functions of package document: which bytes are letters or digits, which stand for themselves, where a byte is in a string, which strings are names (for all arguments that are named in each theorem).
-/
import Derived.Test.YtbfgkbcpkldofaaDoorProg
import Derived.WalkKit
import Derived.WalkSpells
import Derived.WalkLawsBesides
import Derived.Deep.QuietTactic
import Derived.BigQuiet
import Derived.Lib.Hide
import Derived.Lib.Bytealg
namespace Go.Proofs.YtbfgkbcpkldofaaDoor
open Go.RowKit

theorem ret_bool {a b : Bool} (h : a = b) : Ending.returned (.bool a) = .returned (.bool b) := by rw [h]
theorem ret_int {k : IntKind} {a b : Int} (h : a = b) : Ending.returned (.int k a) = .returned (.int k b) := by rw [h]

/-- a decimal digit; a lower-case letter or a digit; a byte that stands for itself (each a number) -/
def digB (c : Int) : Bool := decide (48 ≤ c) && decide (c ≤ 57)
def ldB (c : Int) : Bool := (decide (97 ≤ c) && decide (c ≤ 122)) || digB c
def plnB (c : Int) : Bool := (decide (33 ≤ c) && decide (c ≤ 125)) && (c != 37)

set_option maxHeartbeats 400000 in
theorem digit_any (c : Int) (w : World) :
    Calls Tryd.prog 72 #[.int .u8 c] w fun e w' => e = .returned (.bool (digB c)) ∧ w = w' := by
  by_cases h1 : 48 ≤ c
  · go_enter Tryd.func72, Tryd.ntmps72
    go_wp2
    go_ret
    exact ⟨ret_bool (by simp [digB, h1]), rfl⟩
  · go_enter Tryd.func72, Tryd.ntmps72
    go_wp2
    go_ret
    exact ⟨ret_bool (by unfold digB; rw [decide_eq_false (p := 48 ≤ c) (by omega)]; rfl), rfl⟩
set_option maxHeartbeats 400000 in
theorem letterOrDigit_any (c : Int) (w : World) :
    Calls Tryd.prog 107 #[.int .u8 c] w fun e w' => e = .returned (.bool (ldB c)) ∧ w = w' := by
  by_cases h1 : 97 ≤ c
  · by_cases h2 : c ≤ 122
    · go_enter Tryd.func107, Tryd.ntmps107
      go_wp2
      go_ret
      exact ⟨ret_bool (by unfold ldB; rw [decide_eq_true h1, decide_eq_true h2]; rfl), rfl⟩
    · go_enter Tryd.func107, Tryd.ntmps107
      go_wp2_with (go_at_call 72; refine (digit_any _ _).mono ?_; rintro e w' ⟨rfl, rfl⟩)
      go_ret
      exact ⟨ret_bool (by unfold ldB; rw [decide_eq_false (p := c ≤ _) (by omega)]; simp), rfl⟩
  · go_enter Tryd.func107, Tryd.ntmps107
    go_wp2_with (go_at_call 72; refine (digit_any _ _).mono ?_; rintro e w' ⟨rfl, rfl⟩)
    go_ret
    exact ⟨ret_bool (by unfold ldB; rw [decide_eq_false (p := _ ≤ c) (by omega)]; simp), rfl⟩
set_option maxHeartbeats 400000 in
theorem plain_any (c : Int) (w : World) :
    Calls Tryd.prog 110 #[.int .u8 c] w fun e w' => e = .returned (.bool (plnB c)) ∧ w = w' := by
  by_cases h1 : 33 ≤ c
  · by_cases h2 : c ≤ 125
    · go_enter Tryd.func110, Tryd.ntmps110
      go_wp2
      go_ret
      exact ⟨ret_bool (by unfold plnB; rw [decide_eq_true h1, decide_eq_true h2]; rfl), rfl⟩
    · go_enter Tryd.func110, Tryd.ntmps110
      go_wp2
      go_ret
      exact ⟨ret_bool (by unfold plnB; rw [decide_eq_false (p := c ≤ _) (by omega)]; simp), rfl⟩
  · go_enter Tryd.func110, Tryd.ntmps110
    go_wp2
    go_ret
    exact ⟨ret_bool (by unfold plnB; rw [decide_eq_false (p := _ ≤ c) (by omega)]; simp), rfl⟩
set_option maxHeartbeats 400000 in
theorem tooLong_any (s : ByteArray) (w : World) :
    Calls Tryd.prog 109 #[.string s] w fun e w' => e = .returned (.bool (decide (32768 < s.size))) ∧ w = w' := by
  go_enter Tryd.func109, Tryd.ntmps109
  go_wp2
  go_ret
  exact ⟨ret_bool (by simp; omega), rfl⟩
set_option maxHeartbeats 400000 in
set_option maxRecDepth 100000 in
theorem indexByteLite_any (s : ByteArray) (c : Int) (w : World) :
    Calls Tryd.prog 123 #[.string s, .int .u8 c] w fun e w' => e = .returned (.int .i64 (Lib.indexByte s.data.toList c.toNat.toUInt8)) ∧ w = w' := by
  go_enter Tryd.func123, Tryd.ntmps123
  go_wp2
  rw [run_callFunc_extern Tryd.func134 (by kernel_rfl) (by kernel_rfl) (by kernel_rfl) (e := Extern.BytealgIndexByte.indexByte) (by kernel_rfl), Lib.run_indexByteString]
  simp only [Result.andThen]
  rw [Oper.upon_value]
  go_wp2
  go_ret
  exact ⟨rfl, rfl⟩
set_option maxHeartbeats 400000 in
theorem indexByte_any (s : ByteArray) (c : Int) (w : World) :
    Calls Tryd.prog 98 #[.string s, .int .u8 c] w fun e w' => e = .returned (.int .i64 (Lib.indexByte s.data.toList c.toNat.toUInt8)) ∧ w = w' := by
  go_enter Tryd.func98, Tryd.ntmps98
  go_wp2_with (go_at_call 123; refine (indexByteLite_any _ _ _).mono ?_; rintro e w' ⟨rfl, rfl⟩)
  go_ret
  exact ⟨rfl, rfl⟩
end Go.Proofs.YtbfgkbcpkldofaaDoor
