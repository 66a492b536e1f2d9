/-
  The walks of strings.CutPrefix, for the prefix of a digest's text, and of digest.Parse.
-/
import Derived.Test.YtmafefdchglpbaaDoorHexE
namespace Go.Proofs.YtmafefdchglpbaaDoor
open Go.RowKit

/-- the prefix of a digest's text -/
def pfx : ByteArray := ⟨#[115, 104, 97, 50, 53, 54, 58]⟩
theorem ext_data (s : ByteArray) (i j : Nat) : (s.extract i j).data.toList = (s.data.toList.take j).drop i := by
  rw [ByteArray.data_extract, Array.toList_extract, List.extract_eq_take_drop, List.drop_take]
theorem take_eq (s : ByteArray) : ((s.extract 0 7).toList == pfx.toList) = decide (s.data.toList.take 7 = pfx.data.toList) := by
  rw [Lib.toList_data, Lib.toList_data, ext_data, List.drop_zero, Bool.eq_iff_iff, beq_iff_eq, decide_eq_true_iff]
theorem ret_boolH {a b : Bool} (h : a = b) : Ending.returned (.bool a) = .returned (.bool b) := by rw [h]
set_option maxRecDepth 100000 in
set_option maxHeartbeats 1000000 in
theorem hasPrefix_any (s : ByteArray) (w : World) (hs : s.size ≤ 9223372036854775807) :
    Calls Tryd.prog 78 #[.string s, .string pfx] w fun e w' => e = .returned (.bool (decide (s.data.toList.take 7 = pfx.data.toList))) ∧ w = w' := by
  by_cases h7 : 7 ≤ s.size
  · have hd : decide ((s.size : Int) ≥ 7) = true := by simp; omega
    have q1 : (7 : Int) ≤ (s.size : Int) := by omega
    have hp : pfx.size = 7 := rfl
    go_enter Tryd.func78, Tryd.ntmps78
    go_wp2_with fail
    go_ret
    exact ⟨ret_boolH (take_eq s), rfl⟩
  · have hp : pfx.size = 7 := rfl
    go_enter Tryd.func78, Tryd.ntmps78
    go_wp2_with fail
    go_ret
    refine ⟨ret_boolH (decide_eq_false (fun h => ?_)).symm, rfl⟩; have := congrArg List.length h; rw [List.length_take, ← Lib.size_eq] at this; rw [show pfx.data.toList.length = 7 from rfl] at this; omega
set_option maxRecDepth 100000 in
set_option maxHeartbeats 1000000 in
theorem cutLite_any (s : ByteArray) (w : World) (hs : s.size ≤ 9223372036854775807) :
    Calls Tryd.prog 58 #[.string s, .string pfx] w fun e w' => e = .returned (if s.data.toList.take 7 = pfx.data.toList then .tuple #[.string (s.extract 7 s.size), .bool true] else .tuple #[.string s, .bool false]) ∧ w = w' := by
  have HP := Lib.hid (fun w => hasPrefix_any s w hs)
  have hp : pfx.size = 7 := rfl
  by_cases hb : s.data.toList.take 7 = pfx.data.toList
  · have h7 : 7 ≤ s.size := by
      have := congrArg List.length hb; rw [List.length_take, ← Lib.size_eq] at this; rw [show pfx.data.toList.length = 7 from rfl] at this; omega
    have q1 : (7 : Int) ≤ (s.size : Int) := by omega
    rw [decide_eq_true hb] at HP
    rw [if_pos hb]
    clear hb
    go_enter Tryd.func58, Tryd.ntmps58
    go_wp2_with fail
    refine (HP.out _).mono ?_
    rintro e w' ⟨rfl, rfl⟩
    go_wp2_with fail
    go_ret2
    exact ⟨rfl, rfl⟩
  · rw [decide_eq_false hb] at HP
    rw [if_neg hb]
    clear hb
    go_enter Tryd.func58, Tryd.ntmps58
    go_wp2_with fail
    refine (HP.out _).mono ?_
    rintro e w' ⟨rfl, rfl⟩
    go_wp2_with fail
    go_ret2
    exact ⟨rfl, rfl⟩
set_option maxRecDepth 100000 in
set_option maxHeartbeats 1000000 in
theorem cut_any (s : ByteArray) (w : World) (hs : s.size ≤ 9223372036854775807) :
    Calls Tryd.prog 35 #[.string s, .string pfx] w fun e w' => e = .returned (if s.data.toList.take 7 = pfx.data.toList then .tuple #[.string (s.extract 7 s.size), .bool true] else .tuple #[.string s, .bool false]) ∧ w = w' := by
  have HP := Lib.hid (fun w => cutLite_any s w hs)
  by_cases hb : s.data.toList.take 7 = pfx.data.toList
  · rw [if_pos hb] at HP ⊢
    clear hb
    go_enter Tryd.func35, Tryd.ntmps35
    go_wp2_with fail
    refine (HP.out _).mono ?_
    rintro e w' ⟨rfl, rfl⟩
    go_wp2_with fail
    go_ret2
    exact ⟨rfl, rfl⟩
  · rw [if_neg hb] at HP ⊢
    clear hb
    go_enter Tryd.func35, Tryd.ntmps35
    go_wp2_with fail
    refine (HP.out _).mono ?_
    rintro e w' ⟨rfl, rfl⟩
    go_wp2_with fail
    go_ret2
    exact ⟨rfl, rfl⟩
end Go.Proofs.YtmafefdchglpbaaDoor
