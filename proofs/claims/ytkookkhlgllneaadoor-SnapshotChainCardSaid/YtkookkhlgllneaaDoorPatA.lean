/-
  The walks of strings.IndexByte, strings.Index (a separator of one byte) and of the making of strings.SplitSeq's iterator.
-/
import Derived.Test.YtkookkhlgllneaaDoorPatM
import Derived.Test.YtkookkhlgllneaaDoorChecked
import Derived.WalkKit
import Derived.Lib.Bytealg
import Derived.Lib.IndexBytes

import Derived.Below
import Derived.Lib.Hide
namespace Go.Proofs.YtkookkhlgllneaaDoor
open Go.RowKit

set_option maxHeartbeats 400000 in
set_option maxRecDepth 100000 in
theorem indexByteLite_anyP (s : ByteArray) (c : Int) (w : World) :
    Calls Tryd.prog 134 #[.string s, .int .u8 c] w fun e w' => e = .returned (.int .i64 (Lib.indexByte s.data.toList c.toNat.toUInt8)) ∧ w = w' := by
  go_enter Tryd.func134, Tryd.ntmps134
  go_wp2
  rw [run_callFunc_extern Tryd.func155 (by kernel_rfl) (by kernel_rfl) (by kernel_rfl) (e := Extern.BytealgIndexByte.indexByte) (by kernel_rfl), Lib.run_indexByteString]
  simp only [Result.andThen]
  rw [Oper.upon_value]
  go_wp2
  go_ret
  exact ⟨rfl, rfl⟩
set_option maxHeartbeats 400000 in
theorem indexByte_anyP (s : ByteArray) (c : Int) (w : World) :
    Calls Tryd.prog 98 #[.string s, .int .u8 c] w fun e w' => e = .returned (.int .i64 (Lib.indexByte s.data.toList c.toNat.toUInt8)) ∧ w = w' := by
  go_enter Tryd.func98, Tryd.ntmps98
  go_wp2_with (go_at_call 134; refine (indexByteLite_anyP _ _ _).mono ?_; rintro e w' ⟨rfl, rfl⟩)
  go_ret
  exact ⟨rfl, rfl⟩
theorem indexB_one (s : ByteArray) : Lib.indexB s slB = Lib.indexByte s.data.toList 47 := by
  show Lib.index s.data.toList [47] = _
  exact Lib.index_one _ _
set_option maxHeartbeats 400000 in
theorem indexLite_anyP (s : ByteArray) (w : World) :
    Calls Tryd.prog 170 #[.string s, .string slB] w fun e w' => e = .returned (.int .i64 (Lib.indexB s slB)) ∧ w = w' := by
  have hsz : slB.size = 1 := rfl
  rw [indexB_one]
  by_cases h : (slB.toList == s.toList) = true
  · have hl : s.data.toList = [47] := by rw [beq_iff_eq, Lib.toList_data, Lib.toList_data] at h; exact h.symm
    have HI : Hid (Lib.indexByte s.data.toList 47 = 0) := by show _ = _; rw [hl]; rfl
    clear hl
    go_enter Tryd.func170, Tryd.ntmps170
    go_wp2_with fail
    go_ret
    exact ⟨by rw [HI.out]; rfl, rfl⟩
  · have h : (slB.toList == s.toList) = false := by simpa using h
    go_enter Tryd.func170, Tryd.ntmps170
    go_wp2_with (go_at_call 134; refine (indexByteLite_anyP _ _ _).mono ?_; rintro e w' ⟨rfl, rfl⟩)
    go_ret
    exact ⟨rfl, rfl⟩
set_option maxHeartbeats 400000 in
theorem index_anyP (s : ByteArray) (w : World) :
    Calls Tryd.prog 152 #[.string s, .string slB] w fun e w' => e = .returned (.int .i64 (Lib.indexB s slB)) ∧ w = w' := by
  go_enter Tryd.func152, Tryd.ntmps152
  go_wp2_with (go_at_call 170; refine (indexLite_anyP _ _).mono ?_; rintro e w' ⟨rfl, rfl⟩)
  go_ret
  exact ⟨rfl, rfl⟩
set_option maxHeartbeats 400000 in
theorem splitSeqIn_any (s : ByteArray) (w : World) :
    Calls Tryd.prog 153 #[.string s, .string slB, .int .i64 0] w fun e w' => e = .returned (.func (.func 171) #[] #[.pointer (some ⟨w.heap.size + 1, 0, none⟩), .pointer (some ⟨w.heap.size, 0, none⟩), .pointer (some ⟨w.heap.size + 2, 0, none⟩)]) ∧
      w' = ((w.alloc (.cells #[.string s] 9)).alloc (.cells #[.string slB] 9)).alloc (.cells #[.int .i64 0] 3) := by
  go_enter Tryd.func153, Tryd.ntmps153
  go_wp2
  go_ret
  exact ⟨rfl, rfl⟩
set_option maxHeartbeats 400000 in
theorem splitSeq_any (s : ByteArray) (w : World) :
    Calls Tryd.prog 131 #[.string s, .string slB] w fun e w' => e = .returned (.func (.func 171) #[] #[.pointer (some ⟨w.heap.size + 1, 0, none⟩), .pointer (some ⟨w.heap.size, 0, none⟩), .pointer (some ⟨w.heap.size + 2, 0, none⟩)]) ∧
      w' = ((w.alloc (.cells #[.string s] 9)).alloc (.cells #[.string slB] 9)).alloc (.cells #[.int .i64 0] 3) := by
  go_enter Tryd.func131, Tryd.ntmps131
  go_wp2_with (go_at_call 153; refine (splitSeqIn_any _ _).mono ?_; rintro e w' ⟨rfl, rfl⟩)
  go_ret
  exact ⟨rfl, rfl⟩
end Go.Proofs.YtkookkhlgllneaaDoor
