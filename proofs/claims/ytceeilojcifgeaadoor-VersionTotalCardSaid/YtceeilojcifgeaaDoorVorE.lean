/-
  Versions, the reference: the walks of byDebian, byDots, Order, Scheme and Compare (strings of at most 100000 bytes).
-/
import Derived.Test.YtceeilojcifgeaaDoorVorD
namespace Go.Proofs.YtceeilojcifgeaaDoor
open Go.RowKit

theorem dr_sym {F : FuncId} {args : Array Value} {w : World} {n : Nat} {v : Value} (h : Calls Tryd.prog F args (w.drewN n) fun e w' => e = .returned v ∧ ∃ m, w' = (w.drewN n).drewN m) : Calls Tryd.prog F args (w.drewN n) fun e w'' => e = .returned v ∧ ∃ m, w'' = w.drewN m := Calls.quiet_of h
/-- how two lists of numbers are ordered, from the j-th numbers on -/
def dotT (p q : List BL) (j : Nat) : Int := dotc (p.drop j) (q.drop j)
def nth0 (p : List BL) (j : Nat) : BL := if h : j < p.length then p[j] else [48]
theorem dotT_step {p q : List BL} {j : Nat} (h : j < p.length ∨ j < q.length) : dotT p q j = fst0 (nord (nth0 p j) (nth0 q j)) (dotT p q (j + 1)) := by
  unfold dotT nth0
  by_cases h1 : j < p.length
  · rw [dif_pos h1, List.drop_eq_getElem_cons h1]
    by_cases h2 : j < q.length
    · rw [dif_pos h2, List.drop_eq_getElem_cons h2]; conv => lhs; unfold dotc
    · rw [dif_neg h2, List.drop_of_length_le (by omega : q.length ≤ j), List.drop_of_length_le (by omega : q.length ≤ j + 1)]; conv => lhs; unfold dotc
  · rw [dif_neg h1, List.drop_of_length_le (by omega : p.length ≤ j), List.drop_of_length_le (by omega : p.length ≤ j + 1)]
    have h2 : j < q.length := by omega
    rw [dif_pos h2, List.drop_eq_getElem_cons h2]; conv => lhs; unfold dotc
theorem dotT_end {p q : List BL} {j : Nat} (h1 : p.length ≤ j) (h2 : q.length ≤ j) : dotT p q j = 0 := by
  unfold dotT; rw [List.drop_of_length_le h1, List.drop_of_length_le h2]; unfold dotc; rfl
end Go.Proofs.YtceeilojcifgeaaDoor
