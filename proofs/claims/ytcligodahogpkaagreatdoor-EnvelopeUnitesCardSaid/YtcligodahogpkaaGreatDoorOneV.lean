/-
  One-time signatures: the walk of OnetimeRecovers (conditions: the arguments read as a half, a number and a digest; the table of constants reads as it is laid).
-/
import Derived.Test.YtcligodahogpkaaGreatDoorOneU
import Derived.Test.YtcligodahogpkaaGreatDoorOneT
set_option maxRecDepth 100000
set_option maxHeartbeats 8000000
namespace Go.Proofs.YtcligodahogpkaaGreatDoor
open Go.RowKit Go.Proofs.YtcligodahogpkaaGreatDoor.One
theorem NS (x : List Int) (leaf : Int) (d : List Int) {i : Nat} (hi : i < 68) : (fF x leaf d).getD i [] = vI x leaf d i := by
 unfold fF; simp [List.getD_eq_getElem?_getD, hi]
theorem tK {x : List Int} (leaf : Int) {d : List Int} (hd : D32 d) : FN leaf d (fF x leaf d) = EO x leaf := by
 unfold FN EO
 congr 1
 refine List.map_congr_left fun i hi => ?_
 have hi2 : i < 68 := List.mem_range.1 hi
 have h := LT hd hi2
 unfold FM sN
 rw [NS x leaf d hi2]
 exact wQ leaf i 0 _ 3 (by omega) h.1 h.2 (by omega)
end Go.Proofs.YtcligodahogpkaaGreatDoor
