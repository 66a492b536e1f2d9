/-
  The walk of the statement PatternReturns: it returns true for all strings.
-/
import Derived.Test.YtkookkhlgllneaaDoorGl
namespace Go.Proofs.YtkookkhlgllneaaDoor
open Go.RowKit

theorem extract_listS (s : ByteArray) (k : Nat) : (s.extract k s.size).data.toList = s.data.toList.drop k := ext_drop s k
theorem append_listS (a b : ByteArray) : (a ++ b).data.toList = a.data.toList ++ b.data.toList := by rw [ByteArray.data_append, Array.toList_append]
theorem eq_listS {a b : ByteArray} (h : a.data.toList = b.data.toList) : a = b := by apply ByteArray.ext; exact Array.ext' h
theorem hasP_append (p r : ByteArray) : hasP (p ++ r) p = true := by
  unfold hasP; rw [decide_eq_true_iff, append_listS, Lib.size_eq, List.take_left]
theorem rest_append (p r : ByteArray) : (p ++ r).extract p.size (p ++ r).size = r := by
  apply eq_listS; rw [extract_listS, append_listS, Lib.size_eq, List.drop_left]
theorem back_append {s p : ByteArray} (h : hasP s p = true) : p ++ s.extract p.size s.size = s := by
  unfold hasP at h; rw [decide_eq_true_iff] at h
  apply eq_listS; rw [append_listS, extract_listS, ← h, List.take_append_drop]
theorem rel_back {a b s : ByteArray} (h : relOk a b s = true) : relOk b a (relB a b s) = true ∧ relB b a (relB a b s) = s ∧ pathB (relB a b s) = true := by
  rw [relB_ok h]
  unfold relOk at h
  simp only [Bool.and_eq_true] at h
  obtain ⟨h1, h2, h3, h4, h5⟩ := h
  have e : movB b a (movB a b s) = s := by
    show insB a ++ (insB b ++ s.extract (insB a).size s.size).extract (insB b).size (insB b ++ s.extract (insB a).size s.size).size = s
    rw [rest_append]; exact back_append h4
  have h6 : hasP (movB a b s) (insB b) = true := hasP_append _ _
  have ho : relOk b a (movB a b s) = true := by unfold relOk; rw [e, h1, h2, h3, h5, h6]; rfl
  exact ⟨ho, by rw [relB_ok ho, e], h5⟩
end Go.Proofs.YtkookkhlgllneaaDoor
