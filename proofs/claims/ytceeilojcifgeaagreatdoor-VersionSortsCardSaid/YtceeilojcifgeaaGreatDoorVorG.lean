/-
  Versions: the reference's Valid at strings of any length; the walk of three.
-/
import Derived.Test.YtceeilojcifgeaaGreatDoorLawVVa
import Derived.Test.YtceeilojcifgeaaGreatDoorTapV
import Derived.Test.YtceeilojcifgeaaGreatDoorArgV
namespace Go.Proofs.YtceeilojcifgeaaGreatDoor
open Go.RowKit

set_option maxRecDepth 100000 in
theorem rValidL_any (s : Int) (l : BL) (w : World) :
    Calls Tryz.prog 23 #[.int .i64 s, .string (bs l)] w fun e w' => e = .returned (.bool (rValB s l)) ∧ Below w.heap.size w w' := by
  by_cases hl : l.length ≤ 100000
  · exact rValid_any s l w hl
  · have hsz := bs_size l
    have h0 : l ≠ [] := by rintro rfl; simp at hl
    have hne : ((bs l).toList == []) = false := by rw [bs_eqE]; exact beq_eq_false_iff_ne.2 h0
    have HX := Lib.hid (show rValB s l = false by unfold rValB; rw [if_pos (.inr (by omega))])
    have hd : decide (((bs l).size : Int) > 64) = true := by simp; omega
    clear hsz hl h0
    generalize bs l = sl at *
    go_enter Tryz.func23, Tryz.ntmps23
    go_wp2_with fail
    go_ret
    exact ⟨by rw [HX.out]; rfl, Below.refl _ _⟩
end Go.Proofs.YtceeilojcifgeaaGreatDoor
