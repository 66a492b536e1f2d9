/-
  Plain mathematics, without conditions beyond those of each lemma: scopes (no program is named here but for its name space).
-/
import Derived.Test.YtbbeeajkclbaaaaDoorGa
import Derived.Test.YtbbeeajkclbaaaaDoorDocN
set_option maxRecDepth 100000
set_option maxHeartbeats 8000000
namespace Go.Proofs.YtbbeeajkclbaaaaDoor
open Go
def scpK (r : Nat) (s : ByteArray) : Bool := (seg s).all (fun x => nmB x.data.toList) && decide ((seg s).length ≤ r)
def scpB (s : ByteArray) : Bool := (s.toList == []) || scpK 4 s
theorem seg_pos (s : ByteArray) : 1 ≤ (seg s).length := by
 have := Lib.splitB_all slB (by decide) 0 _ s rfl
 show 1 ≤ (Lib.splitB slB 0 (Lib.countB s slB) s).length
 omega
theorem scpK_zero (s : ByteArray) : scpK 0 s = false := by
 unfold scpK
 have := seg_pos s
 rw [decide_eq_false (by omega), Bool.and_false]
theorem scpK_miss (r : Nat) (s : ByteArray) (h : Lib.indexB s slB = -1) : scpK (r + 1) s = nmB s.data.toList := by
 unfold scpK
 rw [seg_miss s h]
 simp
theorem scpK_hit (r : Nat) (s : ByteArray) (i : Nat) (h : Lib.indexB s slB = i) : scpK (r + 1) s = (nmB (s.extract 0 i).data.toList && scpK r (s.extract (i + 1) s.size)) := by
 unfold scpK
 rw [seg_hit s i h]
 simp [Bool.and_assoc]
def innB (s t : ByteArray) : ByteArray := if s.toList == [] then t else s ++ slB ++ t
def ctF (s : ByteArray) : Bool := decide (0 ≤ Lib.indexB s slB)
def ctA (s : ByteArray) : ByteArray := if ctF s then s.extract 0 (Lib.indexB s slB).toNat else s
def ctB (s : ByteArray) : ByteArray := if ctF s then s.extract ((Lib.indexB s slB).toNat + 1) s.size else ⟨#[]⟩
theorem ct_cases (s : ByteArray) : (ctF s = false ∧ ctA s = s ∧ ctB s = ⟨#[]⟩ ∧ Lib.indexB s slB = -1) ∨ ∃ i : Nat, ctF s = true ∧ ctA s = s.extract 0 i ∧ ctB s = s.extract (i + 1) s.size ∧ Lib.indexB s slB = i ∧ i + 1 ≤ s.size := by
 rcases Lib.indexB_cases s slB with h | ⟨i, h, hr⟩
 ·have hf : ctF s = false := by unfold ctF; rw [h]; rfl
  refine .inl ⟨hf, ?_, ?_, h⟩
  ·unfold ctA; rw [if_neg (by rw [hf]; simp)]
  ·unfold ctB; rw [if_neg (by rw [hf]; simp)]
 ·have hf : ctF s = true := by unfold ctF; rw [h]; exact decide_eq_true (by omega)
  refine .inr ⟨i, hf, ?_, ?_, h, hr⟩
  ·unfold ctA; rw [if_pos hf, h]; rfl
  ·unfold ctB; rw [if_pos hf, h]; rfl
theorem scpK_ct (r : Nat) (s : ByteArray) : scpK (r + 1) s = (nmB (ctA s).data.toList && (!ctF s || scpK r (ctB s))) := by
 rcases ct_cases s with ⟨h1, h2, h3, h4⟩ | ⟨i, h1, h2, h3, h4, _⟩
 ·rw [h1, h2, scpK_miss r s h4]; simp
 ·rw [h1, h2, h3, scpK_hit r s i h4]; simp
theorem ctA_size (s : ByteArray) : (ctA s).size ≤ s.size := by
 unfold ctA; split
 ·rw [ByteArray.size_extract]; omega
 ·exact Nat.le_refl _
theorem ctB_size (s : ByteArray) : (ctB s).size ≤ s.size := by
 unfold ctB; split
 ·rw [ByteArray.size_extract]; omega
 ·exact Nat.zero_le _
end Go.Proofs.YtbbeeajkclbaaaaDoor
