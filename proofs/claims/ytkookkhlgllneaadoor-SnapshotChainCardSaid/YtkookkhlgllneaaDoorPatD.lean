/-
  The walks of the methods of a pattern's part: whether it stands for sequences, whether it takes a byte (condition: a kind is at most 3).
-/
import Derived.Test.YtkookkhlgllneaaDoorPatC
import Derived.BigQuiet
import Derived.Deep.QuietTactic
namespace Go.Proofs.YtkookkhlgllneaaDoor
open Go.RowKit

/-- a part as a value -/
def ptV (p : Pt) : Value := .agg #[.int .i64 (p.1 : Int), .int .u8 p.2]
theorem ptV_eq (p : Pt) : ptV p = .agg #[.int .i64 (p.1 : Int), .int .u8 p.2] := rfl
set_option maxHeartbeats 400000 in
theorem sequence_any (p : Pt) (w : World) (hk : p.1 ≤ 3) :
    Calls Tryd.prog 85 #[.agg #[.int .i64 (p.1 : Int), .int .u8 p.2]] w fun e w' => e = .returned (.bool (seqP p)) ∧ Below w.heap.size w w' := by
  obtain ⟨k, c⟩ := p
  rcases (by simp at hk; omega : k = 0 ∨ k = 1 ∨ k = 2 ∨ k = 3) with rfl | rfl | rfl | rfl
  all_goals
    go_enter Tryd.func85, Tryd.ntmps85
    go_wp2
    go_ret
    exact ⟨rfl, (Below.refl _ _).alloc (Nat.le_refl _) _⟩
set_option maxHeartbeats 400000 in
theorem takes_any (p : Pt) (c : Int) (w : World) (hk : p.1 ≤ 3) :
    Calls Tryd.prog 128 #[.agg #[.int .i64 (p.1 : Int), .int .u8 p.2], .int .u8 c] w fun e w' => e = .returned (.bool (tkP p c)) ∧ Below w.heap.size w w' := by
  obtain ⟨k, d⟩ := p
  rcases (by simp at hk; omega : k = 0 ∨ k = 1 ∨ k = 2 ∨ k = 3) with rfl | rfl | rfl | rfl
  all_goals
    go_enter Tryd.func128, Tryd.ntmps128
    go_wp2
    go_ret
    exact ⟨rfl, (Below.refl _ _).alloc (Nat.le_refl _) _⟩
/-- the prefix of a sequence of any bytes -/
def stB : ByteArray := ⟨#[42, 42]⟩
theorem st_take (s : ByteArray) : ((s.extract 0 2).toList == stB.toList) = decide (s.data.toList.take 2 = [42, 42]) := by
  rw [Lib.toList_data, Lib.toList_data, ByteArray.data_extract, Array.toList_extract, List.extract_eq_take_drop, List.drop_zero, Bool.eq_iff_iff, beq_iff_eq, decide_eq_true_iff]; rfl
set_option maxHeartbeats 400000 in
theorem prefixLite_any (s : ByteArray) (w : World) (hs : s.size ≤ 1000000) :
    Calls Tryd.prog 150 #[.string s, .string stB] w fun e w' => e = .returned (.bool (decide (s.data.toList.take 2 = [42, 42]))) ∧ w = w' := by
  have hp : stB.size = 2 := rfl
  by_cases h2 : 2 ≤ s.size
  · have hd : decide ((s.size : Int) ≥ 2) = true := by simp; omega
    have q1 : (2 : Int) ≤ (s.size : Int) := by omega
    go_enter Tryd.func150, Tryd.ntmps150
    go_wp2_with fail
    go_ret
    exact ⟨ret_boolP (st_take s), rfl⟩
  · have hd : decide ((s.size : Int) ≥ 2) = false := by simp; omega
    go_enter Tryd.func150, Tryd.ntmps150
    go_wp2_with fail
    go_ret
    refine ⟨ret_boolP (decide_eq_false (fun h => ?_)).symm, rfl⟩; have := congrArg List.length h; rw [List.length_take, ← Lib.size_eq] at this; simp at this; omega
set_option maxHeartbeats 400000 in
theorem prefix_any (s : ByteArray) (w : World) (hs : s.size ≤ 1000000) :
    Calls Tryd.prog 125 #[.string s, .string stB] w fun e w' => e = .returned (.bool (decide (s.data.toList.take 2 = [42, 42]))) ∧ w = w' := by
  have HP := Lib.hid (fun w => prefixLite_any s w hs)
  go_enter Tryd.func125, Tryd.ntmps125
  go_wp2_with fail
  refine (HP.out _).mono ?_
  rintro e w' ⟨rfl, rfl⟩
  go_wp2_with fail
  go_ret
  exact ⟨rfl, rfl⟩
end Go.Proofs.YtkookkhlgllneaaDoor
