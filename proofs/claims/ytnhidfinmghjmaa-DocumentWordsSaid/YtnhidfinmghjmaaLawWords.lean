/-
  The walk of the statement DocumentWords: it returns true for every two strings.
-/
import Derived.Test.YtnhidfinmghjmaaDocK
import Derived.Test.YtnhidfinmghjmaaDocRU
namespace Go.Proofs.Ytnhidfinmghjmaa
open Go.RowKit

/-- what Unword answers, as two values -/
def unwS (r : Option (List UInt8)) : ByteArray := match r with | some l => ⟨l.toArray⟩ | none => ⟨#[]⟩
theorem UnwRes.out {r : Option (List UInt8)} {w w' : World} {e : Ending} (h : UnwRes r w e w') : e = .returned (.tuple #[.string (unwS r), .bool r.isSome]) ∧ Below w.heap.size w w' := by
  obtain ⟨h1, h2⟩ := h
  cases r with
  | none => exact ⟨h1, h2⟩
  | some l => exact ⟨h1, h2⟩

set_option maxHeartbeats 1000000 in
theorem wordsLaw_any (t s : ByteArray) (w : World) (ht : t.size ≤ maxLen) (hs : s.size ≤ maxLen) :
    Calls Try.prog 3 #[.string t, .string s] w fun e w' => e = .returned (.bool true) ∧ Below w.heap.size w w' := by
  have ht' : t.size ≤ 9223372036854775807 := ht
  have hs' : s.size ≤ 9223372036854775807 := hs
  by_cases h1 : 5000 < t.size
  · go_enter Try.func3, Try.ntmps3
    go_wp2
    go_ret
    exact ⟨rfl, Below.refl _ _⟩
  · by_cases h2 : 5000 < s.size
    · go_enter Try.func3, Try.ntmps3
      go_wp2
      go_ret
      exact ⟨rfl, Below.refl _ _⟩
    · have HU := fun w => Lib.hid ((Unword_any s w (by omega)).mono fun e w' h => UnwRes.out h)
      have HRU := fun w => Lib.hid ((refUnword_any s w (by omega)).mono fun e w' h => UnwRes.out h)
      have HW := fun w => Lib.hid (Word_any t w (by omega))
      have HRW := fun w => Lib.hid (refWord_any t w (by omega))
      generalize unwS (unword s.data.toList) = S at *
      generalize (unword s.data.toList).isSome = B at *
      generalize (⟨(wordL t.data.toList).toArray⟩ : ByteArray) = T at *
      go_enter Try.func3, Try.ntmps3
      go_wp2_with (first
        | (go_at_call 4; refine (HU _).out.mono ?_; rintro e w1 ⟨rfl, hb1⟩)
        | (go_at_call 5; refine (HRU _).out.mono ?_; rintro e w2 ⟨rfl, hb2⟩)
        | (go_at_call 6; refine (awake_any _).mono ?_; rintro e w3 ⟨rfl, hb3⟩)
        | (go_at_call 7; refine (HW _).out.mono ?_; rintro e w4 ⟨rfl, hb4⟩)
        | (go_at_call 8; refine (HRW _).out.mono ?_; rintro e w5 ⟨rfl, hb5⟩))
      go_ret
      have s1 := hb1.size; have s2 := hb2.size; have s3 := hb3.size; have s4 := hb4.size
      exact ⟨ret_bool (by simp), (((hb1.trans (hb2.mono s1)).trans (hb3.mono (by omega))).trans (hb4.mono (by omega))).trans (hb5.mono (by omega))⟩
end Go.Proofs.Ytnhidfinmghjmaa
