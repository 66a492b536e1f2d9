/-
  One-time signatures: the walk of OnetimeClimbs (conditions: the arguments read as a half and numbers; the table of constants reads as it is laid).
-/
import Derived.Test.YtbfgkbcpkldofaaDoorOneS
namespace Go.Proofs.YtbfgkbcpkldofaaDoor
open Go.RowKit Go.Proofs.YtbfgkbcpkldofaaDoor.One

theorem tmod4 (x : Int) : Int.tmod (Int.tmod x 4 + 4) 4 = x % 4 := by
  have h := Int.tmod_eq_emod (a := x) (b := 4)
  rw [h]
  split
  · rw [Int.tmod_eq_emod_of_nonneg (by omega)]; omega
  · rw [Int.tmod_eq_emod_of_nonneg (by have := Int.emod_nonneg x (show (4 : Int) ≠ 0 by decide); simp; omega)]; simp
theorem tmod_range (x : Int) : -3 ≤ Int.tmod x 4 ∧ Int.tmod x 4 ≤ 3 := by
  have h := Int.tmod_eq_emod (a := x) (b := 4)
  rw [h]; split
  · omega
  · simp; omega
theorem md4 (x : Int) : (wrap64 (Int.tmod x 4 + 4)).tmod 4 = x % 4 := by
  have h := tmod_range x
  rw [wrap64_in (by omega) (by omega)]
  exact tmod4 x
theorem clN_more {x : List Int} (leaf c fr : Int) (m : Nat) : ∀ n, clN x leaf c fr (m + n) = clN (clN x leaf c fr m) leaf c (fr + m) n
  | 0 => rfl
  | n + 1 => by
    rw [← Nat.add_assoc]
    show stepB (clN x leaf c fr (m + n)) leaf c (fr + ((m + n : Nat) : Int)) = stepB (clN (clN x leaf c fr m) leaf c (fr + m) n) leaf c (fr + m + n)
    rw [clN_more leaf c fr m n, show fr + ((m + n : Nat) : Int) = fr + m + n by omega]
theorem climb_trans {x : List Int} (leaf k a b c : Int) (h0 : 0 ≤ a) (h1 : a ≤ b) (h2 : b ≤ c) (h3 : c ≤ 3) : climbB (climbB x leaf k a b) leaf k b c = climbB x leaf k a c := by
  unfold climbB
  rw [if_neg (by omega), if_neg (by omega), if_neg (by omega)]
  have e1 : b = a + ((b - a).toNat : Int) := by omega
  have e2 : (c - a).toNat = (b - a).toNat + (c - b).toNat := by omega
  rw [e2, clN_more, ← e1]
theorem climb_none {x : List Int} (leaf k a : Int) : climbB x leaf k a a = x := by
  unfold climbB
  split
  · rfl
  · rw [show (a - a).toNat = 0 by omega]; rfl
end Go.Proofs.YtbfgkbcpkldofaaDoor
