/-
  The walk of the statement DocumentNames: it returns true for every string.
-/
import Derived.Test.YtnhidfinmghjmabDocK
import Derived.Test.YtnhidfinmghjmabDocNR
namespace Go.Proofs.Ytnhidfinmghjmab
open Go.RowKit

set_option maxHeartbeats 1000000 in
theorem names_any (s : ByteArray) (w : World) (hs : s.size ≤ maxLen) :
    Calls Try.prog 6 #[.string s] w fun e w' => e = .returned (.bool true) ∧ Below w.heap.size w w' := by
  have hs' : s.size ≤ 9223372036854775807 := hs
  by_cases hbig : 300 < s.size
  · go_enter Try.func6, Try.ntmps6
    go_wp2
    go_ret
    exact ⟨rfl, Below.refl _ _⟩
  · go_enter Try.func6, Try.ntmps6
    go_wp2_with (first
      | (go_at_call 9; refine (awake_any _).mono ?_; rintro e w1 ⟨rfl, hb1⟩)
      | (go_at_call 13; refine (Name_any s _ hs).mono ?_; rintro e w' ⟨rfl, rfl⟩)
      | (go_at_call 14; refine (refName_any s _ hs).mono ?_; rintro e w' ⟨rfl, rfl⟩))
    go_ret
    exact ⟨ret_bool (by simp), hb1⟩
end Go.Proofs.Ytnhidfinmghjmab
