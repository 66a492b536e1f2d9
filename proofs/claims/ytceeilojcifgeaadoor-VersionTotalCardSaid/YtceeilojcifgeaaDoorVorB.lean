/-
  Versions, the reference: the walk of bySemver (strings of at most 100000 bytes).
-/
import Derived.Test.YtceeilojcifgeaaDoorVorA
import Derived.Test.YtceeilojcifgeaaDoorVeqC
import Derived.Test.YtceeilojcifgeaaDoorLawVNu
namespace Go.Proofs.YtceeilojcifgeaaDoor
open Go.RowKit

theorem same_sym {F : FuncId} {args : Array Value} {w : World} {v : Value} (h : Calls Tryd.prog F args w fun e w' => e = .returned v ∧ w = w') : Calls Tryd.prog F args w fun e w' => e = .returned v ∧ w' = w := h.mono fun _ _ ⟨a, b⟩ => ⟨a, b.symm⟩
theorem rowS_val {B : Nat} {w : World} {v : Value} {ls : List BL} (h : RowS B w v ls) : (v = .slice none 0 0 ∧ ls = []) ∨ ∃ g, v = .slice (some ⟨g, 0, none⟩) ls.length ls.length ∧ ∀ i, ∀ h : i < ls.length, w.cell? ⟨g, i, none⟩ = some (.string (bs ls[i])) := by
  rcases h with h | ⟨g, h1, _, h2⟩
  · exact .inl h
  · exact .inr ⟨g, h1, fun i hi => row_cell h2 i hi⟩
theorem rowS_keep {B : Nat} {w w' : World} {v : Value} {ls : List BL} (h : RowS B w v ls) (hb : Below w.heap.size w w') : RowS B w' v ls := by
  rcases h with h | ⟨g, h1, h2, h3⟩
  · exact .inl h
  · exact .inr ⟨g, h1, h2, row_keep h3 hb⟩
/-- how prereleases are ordered, from the j-th identifiers on -/
def idsT (p q : List BL) (j : Nat) : Int := idsc (p.drop j) (q.drop j)
theorem idsT_step {p q : List BL} {j : Nat} (h1 : j < p.length) (h2 : j < q.length) : idsT p q j = fst0 (idc p[j] q[j]) (idsT p q (j + 1)) := by
  unfold idsT; rw [List.drop_eq_getElem_cons h1, List.drop_eq_getElem_cons h2]
  conv => lhs; unfold idsc
theorem idsT_end {p q : List BL} {j : Nat} (hp : j ≤ p.length) (hq : j ≤ q.length) (h : ¬ (j < p.length ∧ j < q.length)) : idsT p q j = sgn ((p.length : Int) - q.length) := by
  unfold idsT
  by_cases h1 : j < p.length
  · have h2 : q.length = j := by omega
    rw [List.drop_eq_getElem_cons h1, List.drop_of_length_le (by omega : q.length ≤ j)]
    unfold idsc sgn; rw [if_neg (by omega), if_pos (by omega)]
  · have h1' : p.length = j := by omega
    rw [List.drop_of_length_le (by omega : p.length ≤ j)]
    by_cases h2 : j < q.length
    · rw [List.drop_eq_getElem_cons h2]
      unfold idsc sgn; rw [if_pos (by omega)]
    · rw [List.drop_of_length_le (by omega : q.length ≤ j)]
      have : (p.length : Int) - q.length = 0 := by omega
      rw [this]; unfold idsc; rfl
theorem idc_rng (a b : BL) : idc a b = -1 ∨ idc a b = 0 ∨ idc a b = 1 := by
  unfold idc; split
  · split
    · exact nord_rng a b
    · exact .inl rfl
  · split
    · exact .inr (.inr rfl)
    · exact lx_rng a b
/-- the first k comparisons are 0 -/
def At3 (k : Nat) (n0 n1 n2 : Int) : Prop := (k = 0) ∨ (k = 1 ∧ n0 = 0) ∨ (k = 2 ∧ n0 = 0 ∧ n1 = 0) ∨ (k = 3 ∧ n0 = 0 ∧ n1 = 0 ∧ n2 = 0)
end Go.Proofs.YtceeilojcifgeaaDoor
