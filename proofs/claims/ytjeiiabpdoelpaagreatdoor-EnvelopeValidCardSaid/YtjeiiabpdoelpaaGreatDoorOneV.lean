/-
  One-time signatures: the walk of OnetimeRecovers (conditions: the arguments read as a half, a number and a digest; the table of constants reads as it is laid).
-/
import Derived.Test.YtjeiiabpdoelpaaGreatDoorOneU
import Derived.Test.YtjeiiabpdoelpaaGreatDoorOneT
namespace Go.Proofs.YtjeiiabpdoelpaaGreatDoor
open Go.RowKit Go.Proofs.YtjeiiabpdoelpaaGreatDoor.One
theorem LR (x : List Int) (leaf : Int) (d : List Int) {i : Nat} (hi : i < 68) : (eQ x leaf d).getD i [] = tO x leaf d i := by
 unfold eQ; simp [List.getD_eq_getElem?_getD, hi]
theorem rP {x : List Int} (leaf : Int) {d : List Int} (hd : D32 d) : vJ leaf d (eQ x leaf d) = CQ x leaf := by
 unfold vJ CQ
 congr 1
 refine List.map_congr_left fun i hi => ?_
 have hi2 : i < 68 := List.mem_range.1 hi
 have h := JU hd hi2
 unfold rQ qT
 rw [LR x leaf d hi2]
 exact uS leaf i 0 _ 3 (by omega) h.1 h.2 (by omega)
end Go.Proofs.YtjeiiabpdoelpaaGreatDoor
