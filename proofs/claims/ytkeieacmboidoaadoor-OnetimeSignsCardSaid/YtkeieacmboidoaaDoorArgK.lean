/-
  Arguments opened: a leaf (condition: it reads as one).
-/
import Derived.Test.YtkeieacmboidoaaDoorArgH
import Derived.Test.YtkeieacmboidoaaDoorOneW
namespace Go.Proofs.YtkeieacmboidoaaDoor
open Go.ChangeShapes Go.WideShapes Go.ChangeAt Go.RowKit

theorem okWide_leaf {w : World} {r : Reach} {base : Nat} {v : Value} (h : Value.okWide Tryd.prog w r base 35 v) : ∃ cs, v = .agg cs := by
  simp only [Value.okWide, Tryd.underlying35] at h
  obtain ⟨cs, h1, _⟩ := h
  exact ⟨cs, h1⟩
theorem leaf_cells {H : Type} {enc : TypeId × Value → H} {W : World} {fuel : Nat} {held : Bool} {cs : List Value} {x : DataW H × List MemPlace}
    (h : DataW.trod enc Tryd.prog W 0 (fun _ => true) held fuel 35 cs = some x) : ∃ (L : List Int) (n : Int), cs = lfL L n ∧ H16 L := by
  have c1 : Tryd.prog.cellsOf 3 = 1 := by kernel_rfl
  have c16 : Tryd.prog.cellsOf 23 = 16 := by kernel_rfl
  have c17 : Tryd.prog.cellsOf 35 = 17 := by kernel_rfl
  obtain ⟨xs, m, _, hxx, hl, hx, hall⟩ := DataW.trod_struct Tryd.underlying35 h
  rw [c17] at hl
  have h0 := hall 0 _ rfl
  have h1 := hall 1 _ rfl
  have k : xs.length = 2 := hx
  rw [List.getElem?_eq_getElem (by omega)] at h0 h1
  have h0' : DataW.trod enc Tryd.prog W 0 (fun _ => true) held m 23 ((cs.drop 0).take (Tryd.prog.cellsOf 23)) = some (xs[0]'(by omega)) := h0
  have h1' : DataW.trod enc Tryd.prog W 0 (fun _ => true) held m 3 ((cs.drop 16).take (Tryd.prog.cellsOf 3)) = some (xs[1]'(by omega)) := h1
  rw [c16] at h0'
  rw [c1] at h1'
  obtain ⟨L1, e1, k1⟩ := hfArg_cells h0'
  obtain ⟨z, e2, _, _⟩ := DataW.trod_int Tryd.underlying3 h1'
  refine ⟨L1, z, ?_, k1⟩
  show cs = L1.map (Value.int .u8) ++ [.int .i64 z]
  rw [List.drop_zero] at e1
  have a3 : (cs.drop 16).take 1 = cs.drop 16 := List.take_of_length_le (by rw [List.length_drop]; omega)
  rw [a3] at e2
  rw [← e1, ← e2]
  exact (List.take_append_drop 16 cs).symm
theorem leafArg_of {H : Type} {enc : TypeId × Value → H} {W : World} {fuel : Nat} {held : Bool} {cs : Array Value} {x : DataW H × List MemPlace}
    (h : DataW.trod enc Tryd.prog W 0 (fun _ => true) held fuel 35 (Value.agg cs).cells.toList = some x) : ∃ (L : List Int) (n : Int), cs = (lfL L n).toArray ∧ H16 L := by
  obtain ⟨L, n, h1, h2⟩ := leaf_cells h
  refine ⟨L, n, ?_, h2⟩
  rw [← h1]; simp [Value.cells]
end Go.Proofs.YtkeieacmboidoaaDoor
