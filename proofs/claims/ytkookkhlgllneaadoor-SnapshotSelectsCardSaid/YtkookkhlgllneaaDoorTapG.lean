/-
  The tape of the statements: the walks of Pattern and Directory: a string of theirs.
-/
import Derived.Test.YtkookkhlgllneaaDoorGf
namespace Go.Proofs.YtkookkhlgllneaaDoor
open Go.RowKit

def patsT : List ByteArray := [⟨#[42]⟩, ⟨#[42, 42]⟩, ⟨#[97]⟩, ⟨#[97, 42]⟩, ⟨#[115, 114, 99, 47, 42]⟩, ⟨#[115, 114, 99, 47, 42, 42]⟩, ⟨#[42, 42, 46, 99]⟩, ⟨#[63]⟩, ⟨#[111, 117, 116, 47, 42]⟩, ⟨#[42, 47, 97]⟩, ⟨#[97, 46, 99]⟩, ⟨#[42, 42, 47, 97]⟩, ⟨#[111, 117, 116]⟩, ⟨#[98, 42, 42]⟩]
def dirs6T : List ByteArray := [⟨#[]⟩, ⟨#[]⟩, ⟨#[115, 114, 99]⟩, ⟨#[111, 117, 116]⟩, ⟨#[97]⟩, ⟨#[115, 114, 99, 47, 97]⟩]
set_option maxRecDepth 100000 in
set_option maxHeartbeats 400000 in
theorem tpattern_any (tb q : Nat) (w : World) (ht : Tp w tb (q + 1)) :
    Calls Tryd.prog 27 #[.pointer (some ⟨tb, 0, none⟩)] w fun e w' => ∃ s : ByteArray, e = .returned (.string s) ∧ Tp w' tb q ∧ Turn tb w w' := by
  have HT := Lib.hid ht; clear ht
  go_enter Tryd.func27, Tryd.ntmps27
  go_wp2_with fail
  refine (pick_new tb q 14 patsT w HT.out rfl (by omega) (by omega)).mono ?_
  rintro e w2 ⟨d, hdm, rfl, ht2, hu2⟩
  have HT2 := Lib.hid ht2; have HU2 := Lib.hid hu2; clear ht2 hu2 hdm
  go_wp2_with fail
  go_ret
  exact ⟨d, rfl, HT2.out, HU2.out⟩
set_option maxRecDepth 100000 in
set_option maxHeartbeats 400000 in
theorem tdirectory_any (tb q : Nat) (w : World) (ht : Tp w tb (q + 1)) :
    Calls Tryd.prog 28 #[.pointer (some ⟨tb, 0, none⟩)] w fun e w' => ∃ s : ByteArray, e = .returned (.string s) ∧ Tp w' tb q ∧ Turn tb w w' := by
  have HT := Lib.hid ht; clear ht
  go_enter Tryd.func28, Tryd.ntmps28
  go_wp2_with fail
  refine (pick_new tb q 6 dirs6T w HT.out rfl (by omega) (by omega)).mono ?_
  rintro e w2 ⟨d, hdm, rfl, ht2, hu2⟩
  have HT2 := Lib.hid ht2; have HU2 := Lib.hid hu2; clear ht2 hu2 hdm
  go_wp2_with fail
  go_ret
  exact ⟨d, rfl, HT2.out, HU2.out⟩
end Go.Proofs.YtkookkhlgllneaaDoor
