/-
  The walk of the statement PatternPaths: it returns true for all strings.
-/
import Derived.Test.YtmafefdchglpbaaDoorPatW
namespace Go.Proofs.YtmafefdchglpbaaDoor
open Go.RowKit

set_option maxRecDepth 100000 in
set_option maxHeartbeats 1000000 in
theorem patternPaths_any (s p : ByteArray) (w : World) :
    Calls Tryd.prog 7 #[.string s, .string p] w fun e w' => e = .returned (.bool true) ∧ Below w.heap.size w w' := by
  by_cases hs : 500 < s.size
  · have hd : decide ((s.size : Int) > 500) = true := by simp; omega
    go_enter Tryd.func7, Tryd.ntmps7
    go_wp2
    go_ret
    exact ⟨rfl, Below.refl _ _⟩
  have hd : decide ((s.size : Int) > 500) = false := by simp; omega
  by_cases hp : 500 < p.size
  · have hd2 : decide ((p.size : Int) > 500) = true := by simp; omega
    go_enter Tryd.func7, Tryd.ntmps7
    go_wp2
    go_ret
    exact ⟨rfl, Below.refl _ _⟩
  have hd2 : decide ((p.size : Int) > 500) = false := by simp; omega
  have H0 := Lib.hid (fun w => awakeP_any w)
  have H1 := Lib.hid (fun w => Path_any s w)
  have H2 := Lib.hid (fun w => refPath_any s w)
  have H3 := Lib.hid (fun w => Valid_any p w)
  have H4 := Lib.hid (fun w => refValid_any p w)
  obtain ⟨pb, hpb⟩ : ∃ b, pathB s = b := ⟨_, rfl⟩
  obtain ⟨vb, hvb⟩ : ∃ b, validB p = b := ⟨_, rfl⟩
  rw [hpb] at H1 H2
  rw [hvb] at H3 H4
  clear hpb hvb
  go_enter Tryd.func7, Tryd.ntmps7
  go_wp2_with fail
  refine (H0.out _).mono ?_
  rintro e w1 ⟨rfl, b1⟩
  go_wp2_with fail
  refine (H1.out _).mono ?_
  rintro e w2 ⟨rfl, b2⟩
  have b2 := b1.trans (b2.mono b1.size)
  go_wp2_with fail
  refine (H2.out _).mono ?_
  rintro e w3 ⟨rfl, b3⟩
  have b3 := b2.trans (b3.mono b2.size)
  go_wp2_with fail
  refine (H3.out _).mono ?_
  rintro e w4 ⟨rfl, b4⟩
  have b4 := b3.trans (b4.mono b3.size)
  go_wp2_with fail
  refine (H4.out _).mono ?_
  rintro e w5 ⟨rfl, b5⟩
  have b5 := b4.trans (b5.mono b4.size)
  go_wp2_with fail
  go_ret
  exact ⟨rfl, b5⟩
end Go.Proofs.YtmafefdchglpbaaDoor
