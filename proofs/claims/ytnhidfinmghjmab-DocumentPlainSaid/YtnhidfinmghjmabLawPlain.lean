/-
  The walk of the statement DocumentPlain: it returns true for every string.
-/
import Derived.Test.YtnhidfinmghjmabDocK
import Derived.Test.YtnhidfinmghjmabDocU
namespace Go.Proofs.Ytnhidfinmghjmab
open Go.RowKit

theorem Word_S {s S : ByteArray} (hS : S.data.toList = wordL s.data.toList) (w : World) (hlen : 3 * s.size + 1 ≤ 1099511627776) :
    Calls Try.prog 7 #[.string s] w fun e w' => e = .returned (.string S) ∧ Below w.heap.size w w' :=
  (Word_any s w hlen).mono fun e w' ⟨he, hb⟩ => ⟨by rw [he, ← hS, Lib.mk_data], hb⟩
theorem Unword_S {s S : ByteArray} (hS : S.data.toList = wordL s.data.toList) (w : World) (hlen : S.size ≤ 1099511627776) :
    Calls Try.prog 8 #[.string S] w fun e w' => e = .returned (.tuple #[.string s, .bool true]) ∧ Below w.heap.size w w' :=
  (Unword_any S w hlen).mono fun e w' ⟨he, hb⟩ => by
    rw [hS, unword_wordL] at he
    exact ⟨by rw [he, Lib.mk_data], hb⟩
theorem word_string (s : ByteArray) : ∃ S : ByteArray, S.data.toList = wordL s.data.toList := ⟨⟨(wordL s.data.toList).toArray⟩, rfl⟩
theorem byte_range {S : ByteArray} {l : List UInt8} (hS : S.data.toList = wordL l) (k : Nat) (hk : k < S.size) : 33 ≤ S[k].toNat ∧ S[k].toNat ≤ 126 :=
  wordL_range l S[k] (by
    rw [← hS]
    have : S[k] = S.data.toList[k]'(by simpa using hk) := rfl
    rw [this]; exact List.getElem_mem _)

set_option maxHeartbeats 1000000 in
theorem plainLaw_any (s : ByteArray) (w : World) (hs : s.size ≤ maxLen) :
    Calls Try.prog 3 #[.string s] w fun e w' => e = .returned (.bool true) ∧ Below w.heap.size w w' := by
  have hs' : s.size ≤ 9223372036854775807 := hs
  by_cases hbig : 5000 < s.size
  · go_enter Try.func3, Try.ntmps3
    go_wp2
    go_ret
    exact ⟨rfl, Below.refl _ _⟩
  · obtain ⟨S, hS⟩ := word_string s
    have hSl : S.size ≤ 15001 := by
      have := wordL_le s.data.toList
      rw [← Lib.size_eq, ← hS, ← Lib.size_eq] at this
      omega
    have hSe : S.toList.isEmpty = false := by
      rw [Lib.toList_data, List.isEmpty_eq_false_iff, hS]; exact wordL_ne _
    have HW := fun w => Lib.hid (Word_S hS w (by omega))
    have HU := fun w => Lib.hid (Unword_S hS w (by omega))
    have HR := Lib.hid (byte_range hS)
    clear hS
    go_enter Try.func3, Try.ntmps3
    go_wp2_with (go_at_call 7; refine (HW _).out.mono ?_; rintro e w1 ⟨rfl, hb1⟩)
    go_loop [4] (fun i => ∃ k : Nat, k ≤ S.size ∧ i = .int .i64 k) (fun i => S.size - (intOf i).toNat)
    case atStart => exact ⟨0, by omega, rfl⟩
    case round =>
      obtain ⟨k, hk, rfl⟩ := hrel
      by_cases hlt : k < S.size
      · have hr := HR.out k hlt
        have h1 : ¬ ((S[k].toNat : Int) < 33) := by omega
        have h2 : ¬ ((126 : Int) < (S[k].toNat : Int)) := by omega
        clear hr
        go_wp2
        go_round
        case rel => exact ⟨k + 1, by omega, by go_num⟩
        case measure => simp [intOf]; omega
      · go_wp2_with (first
          | (go_at_call 8; refine (HU _).out.mono ?_; rintro e w2 ⟨rfl, hb2⟩)
          | (go_at_call 9; refine (awake_any _).mono ?_; rintro e w3 ⟨rfl, hb3⟩))
        go_ret
        exact ⟨rfl, (hb1.trans (hb2.mono hb1.size)).trans (hb3.mono (Nat.le_trans hb1.size hb2.size))⟩
end Go.Proofs.Ytnhidfinmghjmab
