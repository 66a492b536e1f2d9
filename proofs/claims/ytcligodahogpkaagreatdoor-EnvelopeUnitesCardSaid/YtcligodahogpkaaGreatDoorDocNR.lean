/-
  The walk of the reference's Name: it answers as document.Name does (for every string).
-/
import Derived.Test.YtcligodahogpkaaGreatDoorZip
import Derived.Test.YtcligodahogpkaaGreatDoorH0
set_option maxRecDepth 100000
set_option maxHeartbeats 8000000
namespace Go.Proofs.YtcligodahogpkaaGreatDoor
open Go.RowKit
theorem beqI {c : UInt8} {n : UInt8} : (((c.toNat : Nat) : Int) == ((n.toNat : Nat) : Int)) = (c == n) := by
 by_cases h : c = n
 ·subst h; simp
 ·have : ¬ c.toNat = n.toNat := fun e => h (UInt8.toNat_inj.1 e)
  rw [beq_eq_false_iff_ne.2 h, beq_eq_false_iff_ne.2 (by omega)]
theorem tT (c : UInt8) : nmc c = decide ((97 ≤ (c.toNat : Int) ∧ (c.toNat : Int) ≤ 122) ∨ (48 ≤ (c.toNat : Int) ∧ (c.toNat : Int) ≤ 57) ∨ (c.toNat : Int) = 46 ∨ (c.toNat : Int) = 95 ∨ (c.toNat : Int) = 45) := by
 have e1 : (c == 46) = decide ((c.toNat : Int) = 46) := by rw [← beqI]; rfl
 have e2 : (c == 95) = decide ((c.toNat : Int) = 95) := by rw [← beqI]; rfl
 have e3 : (c == 45) = decide ((c.toNat : Int) = 45) := by rw [← beqI]; rfl
 unfold nmc ldB eH
 rw [e1, e2, e3]
 simp only [Bool.decide_or, Bool.decide_and, Bool.or_assoc]
theorem CK {c : UInt8} (h : nmc c = true) (h1 : ((c.toNat : Int) == 46) = false) (h2 : ((c.toNat : Int) == 95) = false) (h3 : ((c.toNat : Int) == 45) = false) : ldB c.toNat = true := by
 rw [tT] at h
 have h := of_decide_eq_true h
 have h1 := beq_eq_false_iff_ne.1 h1
 have h2 := beq_eq_false_iff_ne.1 h2
 have h3 := beq_eq_false_iff_ne.1 h3
 unfold ldB eH
 simp only [← Bool.decide_and, ← Bool.decide_or]
 exact decide_eq_true (by omega)
theorem OC {c : UInt8} (h : (c.toNat : Int) = 46 ∨ (c.toNat : Int) = 95 ∨ (c.toNat : Int) = 45) : ldB c.toNat = false := by
 unfold ldB eH
 simp only [← Bool.decide_and, ← Bool.decide_or]
 exact decide_eq_false (by omega)
theorem KU {s : ByteArray} (h0 : 0 < s.size) (h : s.data.toList.all nmc = true) (h1 : ((s[0].toNat : Int) == 46) = false) (h2 : ((s[0].toNat : Int) == 95) = false) (h3 : ((s[0].toNat : Int) == 45) = false) : (ldB (s[0].toNat) && s.data.toList.all nmc) = true := by
 have hc : nmc s[0] = true := List.all_eq_true.1 h s[0] (by have : s[0] = s.data.toList[0]'(by simpa using h0) := rfl
                                                            rw [this]; exact List.getElem_mem _)
 rw [CK hc h1 h2 h3, h]; rfl
theorem vR (s : ByteArray) (w : World) (hs : s.size ≤ maxLen) :
 Calls Tryz.prog 63 #[.string s] w fun e w' => e = .returned (.bool (nmB s.data.toList)) ∧ w = w' := by
 unfold maxLen at hs
 by_cases h0 : s.size = 0
 ·have hn := tU h0
  generalize nmB s.data.toList = r at *
  have e0 : s.toList = [] := by rw [Lib.toList_data]; exact List.eq_nil_of_length_eq_zero (by rw [← Lib.size_eq]; exact h0)
  have HN := zh hn; clear hn
  go_enter Tryz.func63, Tryz.ntmps63
  go_wp2
  go_ret
  exact ⟨bS HN.out.symm, rfl⟩
 ·have e0 : s.toList.isEmpty = false := by
   rw [Lib.toList_data, List.isEmpty_eq_false_iff]
   intro h; rw [Lib.size_eq, h] at h0; simp at h0
  have H0 : 0 < s.size := by omega
  by_cases h64 : 64 < s.size
  ·have HN := zh (xN h64)
   generalize nmB s.data.toList = r at *
   go_enter Tryz.func63, Tryz.ntmps63
   go_wp2
   go_ret
   exact ⟨bS HN.out.symm, rfl⟩
  ·have HN := zh (xO H0 (by omega))
   generalize nmB s.data.toList = r at *
   by_cases hh : (s[0].toNat : Int) = 46 ∨ (s[0].toNat : Int) = 95 ∨ (s[0].toNat : Int) = 45
   ·have HL := zh (OC hh)
    rcases hh with hh | hh | hh
    ·have b1 : ((s[0].toNat : Int) == 46) = true := beq_iff_eq.2 hh
     clear hh
     go_enter Tryz.func63, Tryz.ntmps63
     go_wp2
     go_ret
     exact ⟨bS (by rw [HN.out, HL.out]; rfl), rfl⟩
    ·have b1 : ((s[0].toNat : Int) == 46) = false := beq_eq_false_iff_ne.2 (by omega)
     have b2 : ((s[0].toNat : Int) == 95) = true := beq_iff_eq.2 hh
     clear hh
     go_enter Tryz.func63, Tryz.ntmps63
     go_wp2
     go_ret
     exact ⟨bS (by rw [HN.out, HL.out]; rfl), rfl⟩
    ·have b1 : ((s[0].toNat : Int) == 46) = false := beq_eq_false_iff_ne.2 (by omega)
     have b2 : ((s[0].toNat : Int) == 95) = false := beq_eq_false_iff_ne.2 (by omega)
     have b3 : ((s[0].toNat : Int) == 45) = true := beq_iff_eq.2 hh
     clear hh
     go_enter Tryz.func63, Tryz.ntmps63
     go_wp2
     go_ret
     exact ⟨bS (by rw [HN.out, HL.out]; rfl), rfl⟩
   ·have b1 : ((s[0].toNat : Int) == 46) = false := beq_eq_false_iff_ne.2 (by omega)
    have b2 : ((s[0].toNat : Int) == 95) = false := beq_eq_false_iff_ne.2 (by omega)
    have b3 : ((s[0].toNat : Int) == 45) = false := beq_eq_false_iff_ne.2 (by omega)
    clear hh
    go_enter Tryz.func63, Tryz.ntmps63
    go_wp2
    go_loop [3] (fun i => ∃ k : Nat, k ≤ s.size ∧ i = .int .i64 k ∧ Hid ((s.data.toList.take k).all nmc = true)) (fun i => s.size - (intOf i).toNat)
    case atStart => exact ⟨0, by omega, rfl, rfl⟩
    case round =>
     obtain ⟨k, hk, rfl, HA⟩ := hrel
     by_cases hlt : k < s.size
     ·have HS := zh (kQ s k hlt)
      have HC := zh (tT s[k])
      have HF := zh (fun h => nH (s := s) (k := k) hlt h)
      go_wp2
      all_goals first
       | (go_round
          case rel => exact ⟨k + 1, by omega, by go_num, by show _ = true; rw [HS.out, List.all_append, HA.out]; simp only [List.all_cons, List.all_nil, HC.out, Bool.and_true, Bool.true_and]; exact decide_eq_true (by simp_all <;> omega)⟩
          case measure => simp [intOf]; omega)
       | (go_ret
          exact ⟨bS (by rw [HN.out, HF.out (by rw [HC.out]; exact decide_eq_false (by simp_all <;> omega))]; simp), rfl⟩)
     ·go_wp2
      go_ret
      exact ⟨bS (by rw [HN.out]; rw [yF s k (by omega)] at HA; exact (KU H0 HA.out b1 b2 b3).symm), rfl⟩
end Go.Proofs.YtcligodahogpkaaGreatDoor
