/-
  One-time signatures: the walk of OnetimeRecovers (conditions: the arguments read as a half, a number and a digest; the table of constants reads as it is laid).
-/
import Derived.Test.YtjeiiabpdoelpaaGreatDoorOneU
import Derived.Test.YtjeiiabpdoelpaaGreatDoorOneT
namespace Go.Proofs.YtjeiiabpdoelpaaGreatDoor
open Go.RowKit Go.Proofs.YtjeiiabpdoelpaaGreatDoor.One
theorem E8 (x : List Int) (leaf : Int) (d : List Int) {i : Nat} (hi : i < 68) : (eF x leaf d).getD i [] = qT x leaf d i := by
 unfold eF; simp [List.getD_eq_getElem?_getD, hi]
theorem o9 {x : List Int} (leaf : Int) {d : List Int} (hd : D32 d) : sH leaf d (eF x leaf d) = yU x leaf := by
 unfold sH yU
 congr 1
 refine List.map_congr_left fun i hi => ?_
 have hi2 : i < 68 := List.mem_range.1 hi
 have h := DV hd hi2
 unfold pA oK
 rw [E8 x leaf d hi2]
 exact rX leaf i 0 _ 3 (by omega) h.1 h.2 (by omega)
end Go.Proofs.YtjeiiabpdoelpaaGreatDoor
