/-
  Arguments: a slice of blobs that is nil has no capacity; a slice of bytes.
-/
import Derived.Test.YtfehgkpmjnmpeaaGreatDoorArgB
namespace Go.Proofs.YtfehgkpmjnmpeaaGreatDoor
open Go.ChangeShapes Go.WideShapes Go.ChangeAt Go.RowKit

theorem bls_nil {H : Type} {enc : TypeId × Value → H} {W : World} {fuel : Nat} {held : Bool} {da : Option Addr} {n cap : Nat} {x : DataW H × List MemPlace}
    (h : DataW.trod enc Tryz.prog W 0 (fun _ => true) held fuel 22 (Value.slice da n cap).cells.toList = some x) : da = none → cap = 0 := by
  rintro rfl
  rcases Go.Deep.open_slice Tryz.underlying22 h with ⟨hcs, _⟩ | ⟨a, len, cap', m, k, D, Pl, hcs, _⟩
  · simp [Value.cells] at hcs
    exact hcs.2
  · simp [Value.cells] at hcs
theorem src_arg {H : Type} {enc : TypeId × Value → H} {W : World} {fuel : Nat} {held : Bool} {da : Option Addr} {n cap : Nat} {x : DataW H × List MemPlace}
    (h : DataW.trod enc Tryz.prog W 0 (fun _ => true) held fuel 36 (Value.slice da n cap).cells.toList = some x) : ∃ l, Src W W.heap.size da n cap l ∧ (da = none → cap = 0) := by
  obtain ⟨sp, n', cap', l, hcs, hs, hn⟩ := src_of_bytesG h
  simp [Value.cells] at hcs
  obtain ⟨rfl, rfl, rfl⟩ := hcs
  exact ⟨l, hs, hn⟩
end Go.Proofs.YtfehgkpmjnmpeaaGreatDoor
