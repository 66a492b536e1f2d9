/-
  Laws of the walk that the reference's texts use: a literal of no elements, the append of one byte to a row of the call's own, ranges of cells below (where the seat holds no Sum of the reference; else they stand in RefC).
-/
import Derived.Test.YtbbeeajkclbaaaaDoorGg
import Derived.Deep.LoopGhost
import Derived.IntWalk
import Derived.Outline
import Derived.OwnWalk
import Derived.Deep.RegionHeld3
set_option maxRecDepth 100000
set_option maxHeartbeats 8000000
namespace Go.Proofs.YtbbeeajkclbaaaaDoor
open Go.RowKit
theorem own_shapeC {w : World} {base e size : Nat} {v : Value} {n : Nat} {xs : List Value} (h : w.ownsRow base e size v n xs) : ∃ sp cap, v = .slice sp n cap := by
 obtain ⟨_, ⟨rfl, rfl⟩ | ⟨g, cap, cur, rfl, _⟩⟩ := h
 ·exact ⟨none, 0, rfl⟩
 ·exact ⟨_, cap, rfl⟩
theorem own_baseC {w : World} {base e size : Nat} {v : Value} {n : Nat} {xs : List Value} (h : w.ownsRow base e size v n xs) : ∀ k, v.ownBlock = some k → base ≤ k := fun k hk => (h.lt k hk).1
end Go.Proofs.YtbbeeajkclbaaaaDoor
