/-
  The tape of the statements: the walk of Version: every version that it makes is one of a few, and each of them is valid in its scheme.
-/
import Derived.Test.YtceeilojcifgeaaGreatDoorTapP
import Derived.Test.YtceeilojcifgeaaGreatDoorVerR
namespace Go.Proofs.YtceeilojcifgeaaGreatDoor
open Go.RowKit

def semTv : List ByteArray := [⟨#[49, 46, 48, 46, 48]⟩, ⟨#[49, 46, 50, 46, 48]⟩, ⟨#[49, 46, 50, 46, 51]⟩, ⟨#[50, 46, 48, 46, 48, 45, 114, 99, 46, 49]⟩, ⟨#[50, 46, 48, 46, 48]⟩, ⟨#[50, 46, 48, 46, 48, 43, 98]⟩, ⟨#[48, 46, 57, 46, 48]⟩, ⟨#[49, 46, 49, 48, 46, 48]⟩, ⟨#[49, 46, 48, 46, 48, 45, 97, 108, 112, 104, 97]⟩]
def debTv : List ByteArray := [⟨#[49, 46, 48]⟩, ⟨#[49, 46, 48, 45, 49]⟩, ⟨#[49, 46, 48, 126, 114, 99, 49]⟩, ⟨#[49, 58, 48, 46, 53]⟩, ⟨#[49, 46, 48, 48]⟩, ⟨#[50, 46, 48]⟩, ⟨#[49, 46, 48, 45, 49, 46, 49]⟩, ⟨#[49, 46, 48, 43, 98]⟩, ⟨#[48, 58, 49, 46, 48]⟩]
def dotTv : List ByteArray := [⟨#[49]⟩, ⟨#[49, 46, 48]⟩, ⟨#[49, 46, 50]⟩, ⟨#[49, 46, 49, 48]⟩, ⟨#[50]⟩, ⟨#[48, 49]⟩, ⟨#[48, 46, 57]⟩, ⟨#[49, 46, 48, 46, 49]⟩]
theorem semTv_ok : ∀ s ∈ semTv, valB 1 s.data.toList = true := by decide +kernel
theorem debTv_ok : ∀ s ∈ debTv, valB 2 s.data.toList = true := by decide +kernel
theorem dotTv_ok : ∀ s ∈ dotTv, valB 3 s.data.toList = true := by decide +kernel
set_option maxRecDepth 100000 in
set_option maxHeartbeats 1000000 in
theorem tversion_any (tb q : Nat) (s : Int) (w : World) (hs : s = 1 ∨ s = 2 ∨ s = 3) (ht : Tp w tb (q + 1)) :
    Calls Tryz.prog 15 #[.pointer (some ⟨tb, 0, none⟩), .int .i64 s] w fun e w' => ∃ v : ByteArray, e = .returned (.string v) ∧ valB s v.data.toList = true ∧ Tp w' tb q ∧ Turn tb w w' := by
  have HT := Lib.hid ht; clear ht
  rcases hs with rfl | rfl | rfl
  · go_enter Tryz.func15, Tryz.ntmps15
    go_wp2_with fail
    refine (pick_new tb q 9 semTv w HT.out rfl (by omega) (by omega)).mono ?_
    rintro e w2 ⟨d, hdm, rfl, ht2, hu2⟩
    have HO := Lib.hid (semTv_ok d hdm)
    have HT2 := Lib.hid ht2; have HU2 := Lib.hid hu2
    clear ht2 hu2 hdm
    go_wp2_with fail
    go_ret
    exact ⟨d, rfl, HO.out, HT2.out, HU2.out⟩
  · go_enter Tryz.func15, Tryz.ntmps15
    go_wp2_with fail
    refine (pick_new tb q 9 debTv w HT.out rfl (by omega) (by omega)).mono ?_
    rintro e w2 ⟨d, hdm, rfl, ht2, hu2⟩
    have HO := Lib.hid (debTv_ok d hdm)
    have HT2 := Lib.hid ht2; have HU2 := Lib.hid hu2
    clear ht2 hu2 hdm
    go_wp2_with fail
    go_ret
    exact ⟨d, rfl, HO.out, HT2.out, HU2.out⟩
  · go_enter Tryz.func15, Tryz.ntmps15
    go_wp2_with fail
    refine (pick_new tb q 8 dotTv w HT.out rfl (by omega) (by omega)).mono ?_
    rintro e w2 ⟨d, hdm, rfl, ht2, hu2⟩
    have HO := Lib.hid (dotTv_ok d hdm)
    have HT2 := Lib.hid ht2; have HU2 := Lib.hid hu2
    clear ht2 hu2 hdm
    go_wp2_with fail
    go_ret
    exact ⟨d, rfl, HO.out, HT2.out, HU2.out⟩
end Go.Proofs.YtceeilojcifgeaaGreatDoor
