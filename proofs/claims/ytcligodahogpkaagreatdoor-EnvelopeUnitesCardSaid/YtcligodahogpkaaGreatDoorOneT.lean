/-
  One-time signatures: the walk of OnetimeClimbs (conditions: the arguments read as a half and numbers; the table of constants reads as it is laid).
-/
import Derived.Test.YtcligodahogpkaaGreatDoorOneS
set_option maxRecDepth 100000
set_option maxHeartbeats 8000000
namespace Go.Proofs.YtcligodahogpkaaGreatDoor
open Go.RowKit Go.Proofs.YtcligodahogpkaaGreatDoor.One
theorem yH {x : List Int} (leaf c fr : Int) (m : Nat) : ∀ n, clN x leaf c fr (m + n) = clN (clN x leaf c fr m) leaf c (fr + m) n
 | 0 => rfl
 | n + 1 => by
   rw [← Nat.add_assoc]
   show iL (clN x leaf c fr (m + n)) leaf c (fr + ((m + n : Nat) : Int)) = iL (clN (clN x leaf c fr m) leaf c (fr + m) n) leaf c (fr + m + n)
   rw [yH leaf c fr m n, show fr + ((m + n : Nat) : Int) = fr + m + n by omega]
theorem wQ {x : List Int} (leaf k a b c : Int) (h0 : 0 ≤ a) (h1 : a ≤ b) (h2 : b ≤ c) (h3 : c ≤ 3) : dJ (dJ x leaf k a b) leaf k b c = dJ x leaf k a c := by
 unfold dJ
 rw [if_neg (by omega), if_neg (by omega), if_neg (by omega)]
 have e1 : b = a + ((b - a).toNat : Int) := by omega
 have e2 : (c - a).toNat = (b - a).toNat + (c - b).toNat := by omega
 rw [e2, yH, ← e1]
end Go.Proofs.YtcligodahogpkaaGreatDoor
