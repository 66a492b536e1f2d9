/-
  The walk of the statement DocumentEncodes: it returns true for every argument that reads as a list of lists of strings.
-/
import Derived.Test.YtnhidfinmghjmabDocK
import Derived.Test.YtnhidfinmghjmabDocRE
import Derived.Test.YtnhidfinmghjmabDocL
namespace Go.Proofs.Ytnhidfinmghjmab
open Go.RowKit

set_option maxRecDepth 100000 in
set_option maxHeartbeats 1000000 in
theorem encodes_any (pa : Option Addr) (np ncap : Nat) (ls : List Ln) (w : World) (hp : LinesIn w w.heap.size pa np ls) (hmax : np ≤ 9223372036854775807) (hmax2 : ∀ q ∈ ls, q.n ≤ 9223372036854775807) (hsz : ∀ q ∈ ls, ∀ s ∈ q.l, s.size ≤ 9223372036854775807) :
    Calls Try.prog 4 #[.slice pa np ncap] w fun e w' => e = .returned (.bool true) ∧ Below w.heap.size w w' := by
  have HL := Lib.hid (light_any pa np ncap ls w hp hmax hmax2 hsz)
  have HE := Lib.hid (Encode_any pa np ncap ls w hp hmax hmax2)
  have HR : ∀ w1, Below w.heap.size w w1 → Hid (Calls Try.prog 12 #[.slice pa np ncap] w1 (EncRes w1 (wordsOf ls))) := fun w1 hb =>
    refEncode_any pa np ncap ls w1 ((hp.below hb (Nat.le_refl _)).more hb.size) hmax hmax2
  have HRR := Lib.hid HR
  clear hp hmax hmax2 hsz HR
  generalize wordsOf ls = wl at *
  go_enter Try.func4, Try.ntmps4
  go_wp2_with fail
  refine HL.out.mono ?_
  rintro e w' ⟨⟨b, rfl⟩, rfl⟩
  cases b
  · go_wp2_with fail
    go_ret
    exact ⟨rfl, Below.refl _ _⟩
  · go_wp2_with fail
    refine HE.out.mono ?_
    rintro e w1 ⟨v1, rfl, hown1, hb1⟩
    go_wp2_with fail
    refine (HRR.out w1 hb1).out.mono ?_
    rintro e w2 ⟨v2, rfl, hown2, hb2⟩
    go_wp2_with fail
    refine (awake_any w2).mono ?_
    rintro e w3 ⟨rfl, hb3⟩
    have hs1 := run_string_own (own_below (own_below hown1.out hb2) hb3)
    have hs2 := run_string_own (own_below hown2.out hb3)
    clear hown1 hown2
    generalize (enc wl).2 = X at *
    generalize (enc wl).1 = n at *
    go_wp2_with fail
    go_ret
    exact ⟨ret_bool (by simp), (hb1.trans (hb2.mono hb1.size)).trans (hb3.mono (Nat.le_trans hb1.size hb2.size))⟩
end Go.Proofs.Ytnhidfinmghjmab
