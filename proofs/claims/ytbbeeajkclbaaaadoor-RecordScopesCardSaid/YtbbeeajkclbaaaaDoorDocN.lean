/-
  The walk of document.Name: which strings are names (for every string).
-/
import Derived.Test.YtbbeeajkclbaaaaDoorZip
import Derived.Test.YtbbeeajkclbaaaaDoorGj
set_option maxRecDepth 100000
set_option maxHeartbeats 8000000
namespace Go.Proofs.YtbbeeajkclbaaaaDoor
open Go.RowKit
def nmc (c : UInt8) : Bool := ldB c.toNat || (c == 46 || c == 95 || c == 45)
def nmB (l : List UInt8) : Bool := decide (l.length ≤ 64) && ((match l with | c :: _ => ldB c.toNat | [] => false) && l.all nmc)
theorem byteOf (c : UInt8) : ((c.toNat : Int)).toNat.toUInt8 = c := by simp
theorem dots (c : UInt8) : decide (Lib.indexByte [46, 95, 45] c < 0) = !(c == 46 || c == 95 || c == 45) := by
 unfold Lib.indexByte Lib.indexByte Lib.indexByte Lib.indexByte
 by_cases h1 : c = 46
 ·subst h1; rfl
 ·by_cases h2 : c = 95
  ·subst h2; rfl
  ·by_cases h3 : c = 45
   ·subst h3; rfl
   ·have e1 : ((46 : UInt8) == c) = false := by simpa using fun h => h1 h.symm
    have e2 : ((95 : UInt8) == c) = false := by simpa using fun h => h2 h.symm
    have e3 : ((45 : UInt8) == c) = false := by simpa using fun h => h3 h.symm
    simp [e1, e2, e3, h1, h2, h3]
theorem nmc_of_dots {c : UInt8} (h : ldB c.toNat = false) : nmc c = !decide (Lib.indexByte [46, 95, 45] c < 0) := by
 rw [dots]; unfold nmc; rw [h]; simp
theorem nmc_of_ld {c : UInt8} (h : ldB c.toNat = true) : nmc c = true := by unfold nmc; rw [h]; rfl
theorem data_take_succ (s : ByteArray) (k : Nat) (h : k < s.size) : s.data.toList.take (k + 1) = s.data.toList.take k ++ [s[k]] := by
 rw [List.take_succ_eq_append_getElem (by simpa using h)]; rfl
theorem data_all (s : ByteArray) (k : Nat) (h : s.size ≤ k) : s.data.toList.take k = s.data.toList := List.take_of_length_le (by rw [← Lib.size_eq]; exact h)
theorem data_cons (s : ByteArray) (h : 0 < s.size) : ∃ t, s.data.toList = s[0] :: t := by
 have h' : 0 < s.data.toList.length := by rw [← Lib.size_eq]; exact h
 cases hl : s.data.toList with
 | nil => rw [hl] at h'; simp at h'
 | cons a t =>
   refine ⟨t, ?_⟩
   have : s[0] = s.data.toList[0] := rfl
   rw [this]; simp [hl]
theorem nmB_head {s : ByteArray} (h : 0 < s.size) (h64 : s.size ≤ 64) : nmB s.data.toList = (ldB (s[0].toNat) && s.data.toList.all nmc) := by
 have h' : s.data.toList.length ≤ 64 := by rw [← Lib.size_eq]; exact h64
 obtain ⟨t, ht⟩ := data_cons s h
 unfold nmB
 rw [decide_eq_true h', ht]
 simp
theorem nmB_empty {s : ByteArray} (h : s.size = 0) : nmB s.data.toList = false := by
 have : s.data.toList = [] := List.eq_nil_of_length_eq_zero (by rw [← Lib.size_eq]; exact h)
 rw [this]; rfl
theorem nmB_long {s : ByteArray} (h : 64 < s.size) : nmB s.data.toList = false := by
 unfold nmB
 rw [decide_eq_false (by rw [← Lib.size_eq]; omega)]; rfl
theorem all_false_of {s : ByteArray} {k : Nat} (h : k < s.size) (hc : nmc s[k] = false) : s.data.toList.all nmc = false := by
 rw [Bool.eq_false_iff]; intro ha
 have := List.all_eq_true.1 ha s[k] (by have : s[k] = s.data.toList[k]'(by simpa using h) := rfl
                                        rw [this]; exact List.getElem_mem _)
 rw [hc] at this; cases this
theorem Name_any (s : ByteArray) (w : World) (hs : s.size ≤ maxLen) :
 Calls Tryd.prog 16 #[.string s] w fun e w' => e = .returned (.bool (nmB s.data.toList)) ∧ w = w' := by
 unfold maxLen at hs
 by_cases h0 : s.size = 0
 ·have hn := nmB_empty h0
  generalize nmB s.data.toList = r at *
  have e0 : s.toList = [] := by rw [Lib.toList_data]; exact List.eq_nil_of_length_eq_zero (by rw [← Lib.size_eq]; exact h0)
  have HN := zh hn; clear hn
  go_enter Tryd.func16, Tryd.ntmps16
  go_wp2
  go_ret
  exact ⟨ret_bool HN.out.symm, rfl⟩
 ·have e0 : s.toList.isEmpty = false := by
   rw [Lib.toList_data, List.isEmpty_eq_false_iff]
   intro h; rw [Lib.size_eq, h] at h0; simp at h0
  have H0 : 0 < s.size := by omega
  by_cases h64 : 64 < s.size
  ·have HN := zh (nmB_long h64)
   generalize nmB s.data.toList = r at *
   go_enter Tryd.func16, Tryd.ntmps16
   go_wp2
   go_ret
   exact ⟨ret_bool HN.out.symm, rfl⟩
  ·have HN := zh (nmB_head H0 (by omega))
   generalize nmB s.data.toList = r at *
   cases hld : ldB (s[0].toNat)
   ·rw [hld] at HN
    have HL := zh hld; clear hld
    go_enter Tryd.func16, Tryd.ntmps16
    go_wp2_with (go_at_call 36; refine (letterOrDigit_any _ _).mono ?_; rintro e w' ⟨rfl, rfl⟩; rw [HL.out])
    go_ret
    exact ⟨ret_bool (by rw [HN.out]; rfl), rfl⟩
   ·rw [hld] at HN
    have HL := zh hld; clear hld
    go_enter Tryd.func16, Tryd.ntmps16
    go_wp2_with (go_at_call 36; refine (letterOrDigit_any _ _).mono ?_; rintro e w' ⟨rfl, rfl⟩; rw [HL.out])
    go_loop [19] (fun i => ∃ k : Nat, k ≤ s.size ∧ i = .int .i64 k ∧ Hid ((s.data.toList.take k).all nmc = true)) (fun i => s.size - (intOf i).toNat)
    case atStart => exact ⟨0, by omega, rfl, rfl⟩
    case round =>
     obtain ⟨k, hk, rfl, HA⟩ := hrel
     by_cases hlt : k < s.size
     ·have HS := zh (data_take_succ s k hlt)
      cases hl : ldB (s[k].toNat)
      ·have HK := zh (nmc_of_dots hl)
       have HL2 := zh hl; clear hl
       cases hd : decide (Lib.indexByte [46, 95, 45] s[k] < 0)
       ·rw [hd] at HK
        have hd2 : ¬ Lib.indexByte [46, 95, 45] s[k] < 0 := of_decide_eq_false hd
        clear hd
        go_wp2_with (first | (go_at_call 36; refine (letterOrDigit_any _ _).mono ?_; rintro e w' ⟨rfl, rfl⟩; rw [HL2.out]) | (go_at_call 37; refine (indexByte_any _ _ _).mono ?_; rintro e w' ⟨rfl, rfl⟩; rw [byteOf]))
        go_round
        case rel => exact ⟨k + 1, by omega, by go_num, by show _ = true; rw [HS.out, List.all_append, HA.out]; simp [HK.out]⟩
        case measure => simp [intOf]; omega
       ·rw [hd] at HK
        have hd2 : Lib.indexByte [46, 95, 45] s[k] < 0 := of_decide_eq_true hd
        clear hd
        go_wp2_with (first | (go_at_call 36; refine (letterOrDigit_any _ _).mono ?_; rintro e w' ⟨rfl, rfl⟩; rw [HL2.out]) | (go_at_call 37; refine (indexByte_any _ _ _).mono ?_; rintro e w' ⟨rfl, rfl⟩; rw [byteOf]))
        go_ret
        exact ⟨ret_bool (by rw [HN.out, all_false_of hlt HK.out]; rfl), rfl⟩
      ·have HK := zh (nmc_of_ld hl)
       have HL2 := zh hl; clear hl
       go_wp2_with (go_at_call 36; refine (letterOrDigit_any _ _).mono ?_; rintro e w' ⟨rfl, rfl⟩; rw [HL2.out])
       go_round
       case rel => exact ⟨k + 1, by omega, by go_num, by show _ = true; rw [HS.out, List.all_append, HA.out]; simp [HK.out]⟩
       case measure => simp [intOf]; omega
     ·go_wp2
      go_ret
      exact ⟨ret_bool (by rw [HN.out, ← data_all s k (by omega), HA.out]; rfl), rfl⟩
end Go.Proofs.YtbbeeajkclbaaaaDoor
