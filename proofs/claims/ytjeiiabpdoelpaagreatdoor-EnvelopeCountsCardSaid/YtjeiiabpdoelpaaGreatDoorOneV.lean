/-
  One-time signatures: the walk of OnetimeRecovers (conditions: the arguments read as a half, a number and a digest; the table of constants reads as it is laid).
-/
import Derived.Test.YtjeiiabpdoelpaaGreatDoorOneU
import Derived.Test.YtjeiiabpdoelpaaGreatDoorOneT
namespace Go.Proofs.YtjeiiabpdoelpaaGreatDoor
open Go.RowKit Go.Proofs.YtjeiiabpdoelpaaGreatDoor.One
theorem sig_at (x : List Int) (leaf : Int) (d : List Int) {i : Nat} (hi : i < 68) : (sigB x leaf d).getD i [] = sigE x leaf d i := by
 unfold sigB; simp [List.getD_eq_getElem?_getD, hi]
theorem recover_sign {x : List Int} (leaf : Int) {d : List Int} (hd : D32 d) : recB leaf d (sigB x leaf d) = pubB x leaf := by
 unfold recB pubB
 congr 1
 refine List.map_congr_left fun i hi => ?_
 have hi2 : i < 68 := List.mem_range.1 hi
 have h := digs_at hd hi2
 unfold recE endE
 rw [sig_at x leaf d hi2]
 exact climb_trans leaf i 0 _ 3 (by omega) h.1 h.2 (by omega)
end Go.Proofs.YtjeiiabpdoelpaaGreatDoor
