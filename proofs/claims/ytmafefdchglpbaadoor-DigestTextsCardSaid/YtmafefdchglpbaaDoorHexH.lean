/-
  The walks of the reference's value, unhex, ParseHalf and Parse.
-/
import Derived.Test.YtmafefdchglpbaaDoorHexG
namespace Go.Proofs.YtmafefdchglpbaaDoor
open Go.RowKit

theorem ret_intH {k : IntKind} {a b : Int} (h : a = b) : Ending.returned (.int k a) = .returned (.int k b) := by rw [h]
set_option maxHeartbeats 400000 in
theorem refValue_any (c : UInt8) (w : World) :
    Calls Tryd.prog 59 #[.int .u8 (c.toNat : Int)] w fun e w' => e = .returned (.int .i64 (hexv c : Int)) ∧ w = w' := by
  obtain ⟨n, hn⟩ : ∃ n, c.toNat = n := ⟨_, rfl⟩
  have hv : hexv c = if 48 ≤ n ∧ n ≤ 57 then n - 48 else if 97 ≤ n ∧ n ≤ 102 then n - 87 else 16 := by unfold hexv; rw [hn]
  have hlt : n < 256 := by rw [← hn]; exact UInt8.toNat_lt _
  rw [hn]
  have HV := Lib.hid hv; clear hv hn
  generalize hexv c = v at *
  by_cases h1 : 48 ≤ n
  · by_cases h2 : n ≤ 57
    · have e1 : decide ((n : Int) ≥ 48) = true := by simp; omega
      have e2 : decide ((n : Int) ≤ 57) = true := by simp; omega
      go_enter Tryd.func59, Tryd.ntmps59
      go_wp2
      go_ret
      exact ⟨ret_intH (by rw [HV.out, if_pos ⟨h1, h2⟩]; omega), rfl⟩
    · have e1 : decide ((n : Int) ≥ 48) = true := by simp; omega
      have e2 : decide ((n : Int) ≤ 57) = false := by simp; omega
      by_cases h3 : 97 ≤ n
      · have e3 : decide ((n : Int) ≥ 97) = true := by simp; omega
        by_cases h4 : n ≤ 102
        · have e4 : decide ((n : Int) ≤ 102) = true := by simp; omega
          go_enter Tryd.func59, Tryd.ntmps59
          go_wp2
          go_ret
          exact ⟨ret_intH (by rw [HV.out, if_neg (by omega), if_pos ⟨h3, h4⟩]; omega), rfl⟩
        · have e4 : decide ((n : Int) ≤ 102) = false := by simp; omega
          go_enter Tryd.func59, Tryd.ntmps59
          go_wp2
          go_ret
          exact ⟨ret_intH (by rw [HV.out, if_neg (by omega), if_neg (by omega)]; rfl), rfl⟩
      · have e3 : decide ((n : Int) ≥ 97) = false := by simp; omega
        go_enter Tryd.func59, Tryd.ntmps59
        go_wp2
        go_ret
        exact ⟨ret_intH (by rw [HV.out, if_neg (by omega), if_neg (by omega)]; rfl), rfl⟩
  · have e1 : decide ((n : Int) ≥ 48) = false := by simp; omega
    have e3 : decide ((n : Int) ≥ 97) = false := by simp; omega
    go_enter Tryd.func59, Tryd.ntmps59
    go_wp2
    go_ret
    exact ⟨ret_intH (by rw [HV.out, if_neg (by omega), if_neg (by omega)]; rfl), rfl⟩
end Go.Proofs.YtmafefdchglpbaaDoor
