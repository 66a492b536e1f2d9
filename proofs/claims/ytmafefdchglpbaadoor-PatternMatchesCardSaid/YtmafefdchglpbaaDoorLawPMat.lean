/-
  The walk of the statement PatternMatches: it returns true for all strings.
-/
import Derived.Test.YtmafefdchglpbaaDoorPatY
namespace Go.Proofs.YtmafefdchglpbaaDoor
open Go.RowKit

set_option maxRecDepth 100000 in
set_option maxHeartbeats 1000000 in
theorem patternMatches_any (p s : ByteArray) (w : World) :
    Calls Tryd.prog 8 #[.string p, .string s] w fun e w' => e = .returned (.bool true) ∧ Below w.heap.size w w' := by
  by_cases hs : 500 < s.size
  · have hd : decide ((s.size : Int) > 500) = true := by simp; omega
    go_enter Tryd.func8, Tryd.ntmps8
    go_wp2
    go_ret
    exact ⟨rfl, Below.refl _ _⟩
  have hd : decide ((s.size : Int) > 500) = false := by simp; omega
  by_cases hp : 500 < p.size
  · have hd2 : decide ((p.size : Int) > 500) = true := by simp; omega
    go_enter Tryd.func8, Tryd.ntmps8
    go_wp2
    go_ret
    exact ⟨rfl, Below.refl _ _⟩
  have hd2 : decide ((p.size : Int) > 500) = false := by simp; omega
  have H0 := Lib.hid (fun w => awakeP_any w)
  have H1 := Lib.hid (fun w => Match_any p s w)
  have H2 := Lib.hid (fun w => refMatch_any p s w)
  obtain ⟨mb, hmb⟩ : ∃ b, mtB p s = b := ⟨_, rfl⟩
  rw [hmb] at H1 H2
  clear hmb
  go_enter Tryd.func8, Tryd.ntmps8
  go_wp2_with fail
  refine (H0.out _).mono ?_
  rintro e w1 ⟨rfl, b1⟩
  go_wp2_with fail
  refine (H1.out _).mono ?_
  rintro e w2 ⟨rfl, b2⟩
  have b2 := b1.trans (b2.mono b1.size)
  go_wp2_with fail
  refine (H2.out _).mono ?_
  rintro e w3 ⟨rfl, b3⟩
  have b3 := b2.trans (b3.mono b2.size)
  go_wp2_with fail
  go_ret
  exact ⟨rfl, b3⟩
end Go.Proofs.YtmafefdchglpbaaDoor
