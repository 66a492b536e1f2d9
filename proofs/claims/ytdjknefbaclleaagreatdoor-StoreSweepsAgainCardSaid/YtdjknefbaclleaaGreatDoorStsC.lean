/-
  Stores: the walks of Root and Audit, the program's and the reference's (lists of at most 1000000 blobs, data of at most 2^40 bytes).
-/
import Derived.Test.YtdjknefbaclleaaGreatDoorGy
import Derived.Test.YtdjknefbaclleaaGreatDoorRefE
namespace Go.Proofs.YtdjknefbaclleaaGreatDoor
open Go.RowKit

theorem ds_take {l : List Bl} {k : Nat} {x : Bl} (h : l[k]? = some x) : (l.take (k + 1)).map (·.d) = (l.take k).map (·.d) ++ [x.d] := by rw [List.take_add_one, h]; simp
theorem d32_tree (l : List (List Int)) (h : Digs l) : D32 (tree l) := ⟨(tree_digs l h).1, (tree_digs l h).2⟩
end Go.Proofs.YtdjknefbaclleaaGreatDoor
