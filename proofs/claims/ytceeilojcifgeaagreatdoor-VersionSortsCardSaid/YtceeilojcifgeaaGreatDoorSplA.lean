/-
  The walks of strings.IndexByte, strings.Index, strings.Count, strings.genSplit and strings.Split at a separator of one byte (condition: a string of at most 10000000 bytes).
-/
import Derived.Test.YtceeilojcifgeaaGreatDoorChecked
import Derived.WalkKit
import Derived.Lib.SplitLaws
import Derived.Lib.Bytealg
import Derived.Lib.IndexBytes
import Derived.Below
import Derived.Lib.Hide
import Derived.Deep.OwnRows
import Derived.Deep.LoopGhost
import Derived.IntWalk
namespace Go.Proofs.YtceeilojcifgeaaGreatDoor
open Go.RowKit

set_option maxHeartbeats 400000 in
set_option maxRecDepth 100000 in
theorem indexByteLite_anyS (s : ByteArray) (c : Int) (w : World) :
    Calls Tryz.prog 105 #[.string s, .int .u8 c] w fun e w' => e = .returned (.int .i64 (Lib.indexByte s.data.toList c.toNat.toUInt8)) ∧ w = w' := by
  go_enter Tryz.func105, Tryz.ntmps105
  go_wp2
  rw [run_callFunc_extern Tryz.func118 (by kernel_rfl) (by kernel_rfl) (by kernel_rfl) (e := Extern.BytealgIndexByte.indexByte) (by kernel_rfl), Lib.run_indexByteString]
  simp only [Result.andThen]
  rw [Oper.upon_value]
  go_wp2
  go_ret
  exact ⟨rfl, rfl⟩
/-- a string of one byte -/
def oneB (c : UInt8) : ByteArray := ⟨#[c]⟩
theorem oneB_size (c : UInt8) : (oneB c).size = 1 := rfl
theorem oneB_at (c : UInt8) (h : 0 < (oneB c).size) : (oneB c)[0] = c := rfl
theorem indexB_oneS (s : ByteArray) (c : UInt8) : Lib.indexB s (oneB c) = Lib.indexByte s.data.toList c := by
  show Lib.index s.data.toList [c] = _
  exact Lib.index_one _ _
theorem byte_backS (c : UInt8) : ((c.toNat : Int)).toNat.toUInt8 = c := by simp
set_option maxHeartbeats 400000 in
theorem indexLite_anyS (s : ByteArray) (c : UInt8) (w : World) :
    Calls Tryz.prog 87 #[.string s, .string (oneB c)] w fun e w' => e = .returned (.int .i64 (Lib.indexB s (oneB c))) ∧ w = w' := by
  have hsz := oneB_size c
  have hat := oneB_at c
  rw [indexB_oneS]
  have hne : (oneB c).toList ≠ [] := by rw [Lib.toList_data]; simp [oneB]
  by_cases h : ((oneB c).toList == s.toList) = true
  · have hl : s.data.toList = [c] := by rw [beq_iff_eq, Lib.toList_data, Lib.toList_data] at h; exact h.symm
    have HI : Hid (Lib.indexByte s.data.toList c = 0) := by show _ = _; rw [hl]; simp [Lib.indexByte]
    clear hl
    go_enter Tryz.func87, Tryz.ntmps87
    go_wp2_with fail
    go_ret
    exact ⟨by rw [HI.out]; rfl, rfl⟩
  · have h : ((oneB c).toList == s.toList) = false := by simpa using h
    have HC := Lib.hid (fun w => indexByteLite_anyS s (c.toNat : Int) w)
    have HB := Lib.hid (byte_backS c)
    go_enter Tryz.func87, Tryz.ntmps87
    go_wp2_with fail
    refine (HC.out _).mono ?_
    rintro e w' ⟨rfl, rfl⟩
    rw [HB.out]
    go_wp2_with fail
    go_ret
    exact ⟨rfl, rfl⟩
set_option maxHeartbeats 400000 in
theorem index_anyS (s : ByteArray) (c : UInt8) (w : World) :
    Calls Tryz.prog 76 #[.string s, .string (oneB c)] w fun e w' => e = .returned (.int .i64 (Lib.indexB s (oneB c))) ∧ w = w' := by
  go_enter Tryz.func76, Tryz.ntmps76
  go_wp2_with (go_at_call 87; refine (indexLite_anyS _ _ _).mono ?_; rintro e w' ⟨rfl, rfl⟩)
  go_ret
  exact ⟨rfl, rfl⟩
theorem countB_oneS (s : ByteArray) (c : UInt8) : Lib.countB s (oneB c) = Lib.countByte s.data.toList c := by
  show Lib.count s.data.toList [c] = _
  exact Lib.count_one _ _
set_option maxHeartbeats 400000 in
set_option maxRecDepth 100000 in
theorem count_anyS (s : ByteArray) (c : UInt8) (w : World) :
    Calls Tryz.prog 75 #[.string s, .string (oneB c)] w fun e w' => e = .returned (.int .i64 (Lib.countB s (oneB c) : Int)) ∧ w = w' := by
  have hsz := oneB_size c
  have hat := oneB_at c
  rw [countB_oneS]
  have HB := Lib.hid (byte_backS c)
  go_enter Tryz.func75, Tryz.ntmps75
  go_wp2_with fail
  rw [run_callFunc_extern Tryz.func91 (by kernel_rfl) (by kernel_rfl) (by kernel_rfl) (e := Extern.BytealgCount.count) (by kernel_rfl), Lib.run_countString, HB.out]
  simp only [Result.andThen]
  rw [Oper.upon_value]
  go_wp2_with fail
  go_ret
  exact ⟨rfl, rfl⟩
theorem infoStrS : (Tryz.prog.info? 9).map (fun i => (i.zero, i.size, i.bytes)) = some (some (.string ByteArray.empty), 1, 16) := by kernel_rfl
theorem makeS (n : Nat) (h : n ≤ 100000000) (w : World) : (Instr.makeSlice 29 (.int .i64 ((n : Int) + 1)) (.int .i64 ((n : Int) + 1))).run Tryz.prog w = .ok (.slice (some ⟨w.heap.size, 0, none⟩) (n + 1) (n + 1)) (w.alloc (.cells (Lib.cellsOf [] (n + 1)) 9)) := by
  have h1 := run_make_row' (P := Tryz.prog) 29 9 (.string ByteArray.empty) 16 Tryz.underlying29 infoStrS rfl .i64 .i64 (n + 1) (by omega) (by omega) w
  rw [← Lib.cellsOf_nil] at h1
  exact h1
theorem splitB_missS (s : ByteArray) (c : UInt8) (h : Lib.indexB s (oneB c) = -1) (m : Nat) : Lib.splitB (oneB c) 0 m s = [s] := Lib.splitB_miss _ _ _ _ h
set_option maxHeartbeats 1000000 in
set_option maxRecDepth 100000 in
theorem genSplit_anyS (s : ByteArray) (c : UInt8) (w : World) (hs : s.size ≤ 10000000) :
    Calls Tryz.prog 53 #[.string s, .string (oneB c), .int .i64 0, .int .i64 (-1)] w fun e w' => e = .returned (.slice (some ⟨w.heap.size, 0, none⟩) (Lib.countB s (oneB c) + 1) (Lib.countB s (oneB c) + 1)) ∧
      w' = w.alloc (.cells ((Lib.splitB (oneB c) 0 (Lib.countB s (oneB c)) s).map Value.string).toArray 9) := by
  have hsz := oneB_size c
  have hne : (oneB c).toList ≠ [] := by rw [Lib.toList_data]; simp [oneB]
  have hn1 : ((oneB c).toList == []) = false := by simpa using hne
  have hn2 : (oneB c).toList.isEmpty = false := by simpa using hne
  have hle := Lib.countB_le (oneB c) (by rw [hsz]; exact Nat.le_refl _) s.size s (Nat.le_refl _)
  have hall := Lib.splitB_all (oneB c) (by rw [hsz]; exact Nat.le_refl _) 0 _ s rfl
  have HC := Lib.hid (fun w => count_anyS s c w)
  have HIX := Lib.hid (fun r w => index_anyS r c w)
  obtain ⟨N, hN⟩ : ∃ N, Lib.countB s (oneB c) = N := ⟨_, rfl⟩
  rw [hN] at hle hall HC ⊢
  obtain ⟨ps, hps⟩ : ∃ ps, Lib.splitB (oneB c) 0 N s = ps := ⟨_, rfl⟩
  rw [hps] at hall ⊢
  have HALL := Lib.hid hall; have HPS := Lib.hid hps
  have hmin : min ((N : Int) + 1) ((s.size : Int) + 1) = (N : Int) + 1 := Int.min_eq_left (by omega)
  have hmk := makeS N (by omega)
  have q1 : (N : Int) ≤ 10000000 := by omega
  clear hN hall hps
  go_enter Tryz.func53, Tryz.ntmps53
  go_wp2_with fail
  refine (HC.out _).mono ?_
  rintro e w' ⟨rfl, rfl⟩
  go_wp2_with fail
  clear hmk hmin HC
  go_loopw [0, 10] (fun sv iv wr => ∃ (done : List ByteArray) (rest : ByteArray), sv = .string rest ∧ iv = .int .i64 (done.length : Int) ∧ done.length ≤ N ∧ rest.size ≤ s.size ∧ Hid (done ++ Lib.splitB (oneB c) 0 (N - done.length) rest = ps) ∧ wr = w.alloc (.cells (Lib.cellsOf done (N + 1)) 9)) (fun _ iv _ => N - (intOf iv).toNat)
  case atStart => exact ⟨[], s, rfl, rfl, Nat.zero_le _, Nat.le_refl _, HPS.out, rfl⟩
  case round =>
    obtain ⟨done, rest, rfl, rfl, hd, hrs, HS, rfl⟩ := hrel
    have hnext : (Lib.cellsOf done (N + 1))[done.length]? = some (.string ByteArray.empty) := Lib.cellsOf_next (by omega)
    have hcz := Lib.cellsOf_size (done := done) (N := N + 1) (by omega)
    have HSET := Lib.hid (fun x => Lib.cellsOf_set (done := done) (N := N + 1) (by omega) x)
    obtain ⟨k, hk⟩ : ∃ k, done.length = k := ⟨_, rfl⟩
    rw [hk] at hnext HSET hd HS ⊢
    have HK := Lib.hid hk
    have p1 : (0 : Int) ≤ (k : Int) := by omega
    have p2 : (k : Int) < (N : Int) + 1 := by omega
    by_cases hlt : k < N
    · have hdl : decide ((k : Int) < (N : Int)) = true := by simp; omega
      rcases Lib.indexB_cases rest (oneB c) with hix | ⟨i, hix, hroom⟩
      · exfalso
        have e := HS.out
        rw [splitB_missS rest c hix] at e
        have := HALL.out
        rw [← e, List.length_append, hk] at this
        simp at this
        omega
      · have HI := Lib.hid hix
        have hr1 : i + 1 ≤ rest.size := hroom
        have HSN : Hid ((done ++ [rest.extract 0 i]) ++ Lib.splitB (oneB c) 0 (N - (k + 1)) (rest.extract (i + 1) rest.size) = ps) := by
          show _ = _
          have e := HS.out
          rw [show N - k = (N - (k + 1)) + 1 by omega, Lib.splitB_hit (oneB c) 0 _ rest i hix] at e
          rw [← e, List.append_assoc]; rfl
        have c0 : decide ((i : Int) < 0) = false := by simp
        have c1 : (0 : Int) ≤ (i : Int) := by omega
        have c2 : (i : Int) ≤ (rest.size : Int) := by omega
        have c3 : (0 : Int) ≤ (i : Int) + 1 := by omega
        have c4 : (i : Int) + 1 ≤ (rest.size : Int) := by omega
        have c5 : ((i : Int) + 1).toNat = i + 1 := by omega
        have c6 : (i : Int) ≤ 10000000 := by omega
        clear hix hroom hk
        go_wp2_with fail
        refine (HIX.out rest _).mono ?_
        rintro e w' ⟨rfl, rfl⟩
        rw [HI.out]
        go_wp2_with fail
        go_roundw
        case rel =>
          refine ⟨done ++ [rest.extract 0 i], _, rfl, ?_, ?_, ?_, ?_, ?_⟩
          · rw [List.length_append, HK.out]; go_num
          · rw [List.length_append, HK.out]; exact hlt
          · rw [ByteArray.size_extract]; omega
          · rw [List.length_append, HK.out]; exact HSN
          · rw [HSET.out]
        case measure => simp [intOf]; omega
    · obtain rfl : k = N := by omega
      have hdl : decide ((k : Int) < (k : Int)) = false := by simp
      have HF : Hid ((Lib.cellsOf done (k + 1)).setIfInBounds k (.string rest) = (ps.map Value.string).toArray) := by
        show _ = _
        have e := HS.out
        rw [Nat.sub_self] at e
        have e2 : done ++ [rest] = ps := e
        rw [HSET.out, e2]
        have := Lib.cellsOf_full ps
        rw [HALL.out] at this
        exact this
      have p3 : (0 : Int) ≤ (k : Int) + 1 := by omega
      have p4 : ((k : Int) + 1).toNat = k + 1 := by omega
      clear hk
      go_wp2_with fail
      go_ret
      refine ⟨rfl, ?_⟩
      rw [← HF.out]
set_option maxHeartbeats 400000 in
theorem split_anyS (s : ByteArray) (c : UInt8) (w : World) (hs : s.size ≤ 10000000) :
    Calls Tryz.prog 36 #[.string s, .string (oneB c)] w fun e w' => e = .returned (.slice (some ⟨w.heap.size, 0, none⟩) (Lib.countB s (oneB c) + 1) (Lib.countB s (oneB c) + 1)) ∧
      w' = w.alloc (.cells ((Lib.splitB (oneB c) 0 (Lib.countB s (oneB c)) s).map Value.string).toArray 9) := by
  have HC := Lib.hid (fun w => genSplit_anyS s c w hs)
  clear hs
  go_enter Tryz.func36, Tryz.ntmps36
  go_wp2_with fail
  refine (HC.out _).mono ?_
  rintro e w' ⟨rfl, rfl⟩
  go_wp2_with fail
  go_ret
  exact ⟨rfl, rfl⟩
end Go.Proofs.YtceeilojcifgeaaGreatDoor
