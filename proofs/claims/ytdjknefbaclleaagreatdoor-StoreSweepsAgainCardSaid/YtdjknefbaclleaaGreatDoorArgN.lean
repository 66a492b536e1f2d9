/-
  A slice of integers as an argument.
-/
import Derived.Test.YtdjknefbaclleaaGreatDoorRows
import Derived.Test.YtdjknefbaclleaaGreatDoorStoO
namespace Go.Proofs.YtdjknefbaclleaaGreatDoor
open Go.ChangeShapes Go.WideShapes Go.ChangeAt Go.RowKit

theorem nums_of_slice {H : Type} {enc : TypeId × Value → H} {W : World} {fuel : Nat} {held : Bool} {da : Option Addr} {n cap : Nat} {x : DataW H × List MemPlace}
    (h : DataW.trod enc Tryz.prog W 0 (fun _ => true) held fuel 23 (Value.slice da n cap).cells.toList = some x) : ∃ l, NumsIn W W.heap.size da n cap l := by
  obtain ⟨sp, n', cap', l, hcs, hs⟩ := nums_of_cells h
  simp [Value.cells] at hcs
  obtain ⟨rfl, rfl, rfl⟩ := hcs
  exact ⟨l, hs⟩
end Go.Proofs.YtdjknefbaclleaaGreatDoor
