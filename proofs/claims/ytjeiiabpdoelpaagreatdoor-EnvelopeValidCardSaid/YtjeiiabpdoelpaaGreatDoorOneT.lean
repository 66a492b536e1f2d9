/-
  One-time signatures: the walk of OnetimeClimbs (conditions: the arguments read as a half and numbers; the table of constants reads as it is laid).
-/
import Derived.Test.YtjeiiabpdoelpaaGreatDoorOneS
namespace Go.Proofs.YtjeiiabpdoelpaaGreatDoor
open Go.RowKit Go.Proofs.YtjeiiabpdoelpaaGreatDoor.One
theorem wK {x : List Int} (leaf c fr : Int) (m : Nat) : ∀ n, clN x leaf c fr (m + n) = clN (clN x leaf c fr m) leaf c (fr + m) n
 | 0 => rfl
 | n + 1 => by
   rw [← Nat.add_assoc]
   show gU (clN x leaf c fr (m + n)) leaf c (fr + ((m + n : Nat) : Int)) = gU (clN (clN x leaf c fr m) leaf c (fr + m) n) leaf c (fr + m + n)
   rw [wK leaf c fr m n, show fr + ((m + n : Nat) : Int) = fr + m + n by omega]
theorem uS {x : List Int} (leaf k a b c : Int) (h0 : 0 ≤ a) (h1 : a ≤ b) (h2 : b ≤ c) (h3 : c ≤ 3) : dB (dB x leaf k a b) leaf k b c = dB x leaf k a c := by
 unfold dB
 rw [if_neg (by omega), if_neg (by omega), if_neg (by omega)]
 have e1 : b = a + ((b - a).toNat : Int) := by omega
 have e2 : (c - a).toNat = (b - a).toNat + (c - b).toNat := by omega
 rw [e2, wK, ← e1]
end Go.Proofs.YtjeiiabpdoelpaaGreatDoor
