/-
  The walk of document.ParseNumber: for every string.
-/
import Derived.Test.YtdjknefbaclleaaGreatDoorGc
import Derived.Test.YtdjknefbaclleaaGreatDoorNumM
import Derived.IntWalk
namespace Go.Proofs.YtdjknefbaclleaaGreatDoor
open Go.RowKit

theorem digB_isD (c : UInt8) : digB (c.toNat : Int) = isD c := by
  unfold digB isD
  congr 1 <;> (rw [decide_eq_decide]; omega)
theorem getD_byteN (s : ByteArray) (i : Nat) (h : i < s.size) : s.data.toList[i]? = some s[i] := by
  rw [List.getElem?_eq_getElem (by simpa using h)]; rfl
theorem take_byteN (s : ByteArray) (k : Nat) (h : k < s.size) : s.data.toList.take (k + 1) = s.data.toList.take k ++ [s[k]] := by
  rw [List.take_succ_eq_append_getElem (by simpa using h)]; rfl
theorem pnk_no {l : List UInt8} (h : l = [] ∨ lz l = true ∨ l.all isD = false ∨ 1099511627776 < valL l) : pnk l = false ∧ pnv l = 0 := by
  have h1 : pnk l = false := by
    unfold pnk
    rcases h with h | h | h | h
    · rw [decide_eq_true h]; rfl
    · rw [h]; simp
    · rw [h]; simp
    · rw [decide_eq_false (p := valL l ≤ 1099511627776) (by omega)]; simp
  exact ⟨h1, by unfold pnv; rw [h1]; rfl⟩
theorem pnk_yes {l : List UInt8} (h0 : l ≠ []) (hz : lz l = false) (hd : l.all isD = true) (hm : valL l ≤ 1099511627776) : pnk l = true ∧ pnv l = (valL l : Int) := by
  have h1 : pnk l = true := by unfold pnk; rw [decide_eq_false h0, hz, hd, decide_eq_true hm]; rfl
  exact ⟨h1, by unfold pnv; rw [if_pos h1]⟩
theorem all_take_no {l : List UInt8} {k : Nat} {c : UInt8} (h : l[k]? = some c) (hc : isD c = false) : l.all isD = false := by
  rw [List.all_eq_false]
  exact ⟨c, List.mem_of_getElem? h, by rw [hc]; simp⟩
theorem valL_take_le (l : List UInt8) (k : Nat) : valL (l.take k) ≤ valL l := by
  have := valL_mono (l.take k) (l.drop k)
  rwa [List.take_append_drop] at this
end Go.Proofs.YtdjknefbaclleaaGreatDoor
