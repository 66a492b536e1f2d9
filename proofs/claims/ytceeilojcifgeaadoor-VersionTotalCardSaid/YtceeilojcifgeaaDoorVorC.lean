/-
  Versions, the reference: the walks of weight, split and part (strings of at most 100000 bytes).
-/
import Derived.Test.YtceeilojcifgeaaDoorVorB
namespace Go.Proofs.YtceeilojcifgeaaDoor
open Go.RowKit

/-- the weight at a place; 1: the prefix has ended -/
def wt (s : BL) (i : Nat) : Int := if h : i < s.length then wgt s[i] else 1
theorem wt_rng (s : BL) (i : Nat) : 0 ≤ wt s i ∧ wt s i ≤ 600 := by
  unfold wt; split
  · have := UInt8.toNat_lt (s[i]); unfold wgt; split
    · omega
    · split <;> omega
  · omega
/-- the bytes that split takes -/
def spP (wanted : Bool) (c : UInt8) : Bool := isD c == wanted
theorem spP_true : spP true = isD := by funext c; unfold spP; cases isD c <;> rfl
theorem spP_false : spP false = notD := by funext c; unfold spP notD; cases isD c <;> rfl
/-- how two prefixes are ordered, from the i-th places on -/
def prcT (p q : BL) (i : Nat) : Int := prc (p.drop i) (q.drop i)
theorem prcT_step {p q : BL} {i : Nat} (h : i < p.length ∨ i < q.length) : prcT p q i = fst0 (sgn (wt p i - wt q i)) (prcT p q (i + 1)) := by
  unfold prcT wt
  by_cases h1 : i < p.length
  · rw [dif_pos h1, List.drop_eq_getElem_cons h1]
    by_cases h2 : i < q.length
    · rw [dif_pos h2, List.drop_eq_getElem_cons h2]; conv => lhs; unfold prc
    · rw [dif_neg h2, List.drop_of_length_le (by omega : q.length ≤ i), List.drop_of_length_le (by omega : q.length ≤ i + 1)]; conv => lhs; unfold prc
  · rw [dif_neg h1, List.drop_of_length_le (by omega : p.length ≤ i), List.drop_of_length_le (by omega : p.length ≤ i + 1)]
    have h2 : i < q.length := by omega
    rw [dif_pos h2, List.drop_eq_getElem_cons h2]; conv => lhs; unfold prc
theorem prcT_end {p q : BL} {i : Nat} (h1 : p.length ≤ i) (h2 : q.length ≤ i) : prcT p q i = 0 := by
  unfold prcT; rw [List.drop_of_length_le h1, List.drop_of_length_le h2]; unfold prc; rfl
theorem sgn_ne {z : Int} (h : z ≠ 0) : sgn z ≠ 0 := by unfold sgn; split <;> (try split) <;> omega
end Go.Proofs.YtceeilojcifgeaaDoor
