/-
  Arguments opened: a change of a signature (condition: it reads as such).
-/
import Derived.Test.YtbfgkbcpkldofaaDoorArgT
import Derived.Test.YtbfgkbcpkldofaaDoorLawKSp
namespace Go.Proofs.YtbfgkbcpkldofaaDoor
open Go.ChangeShapes Go.WideShapes Go.ChangeAt Go.RowKit

theorem threeL {α : Type} {l : List α} (h : l.length = 3) : ∃ a b c, l = [a, b, c] := by
  match l, h with
  | [a, b, c], _ => exact ⟨a, b, c, rfl⟩
set_option maxRecDepth 100000 in
theorem okWide_cg {w : World} {r : Reach} {base : Nat} {v : Value} (h : Value.okWide Tryd.prog w r base 27 v) : ∃ cs, v = .agg cs := by
  simp only [Value.okWide, Tryd.underlying27] at h
  obtain ⟨cs, h1, _⟩ := h
  exact ⟨cs, h1⟩
theorem cgArg_of {H : Type} {enc : TypeId × Value → H} {W : World} {fuel : Nat} {held : Bool} {cs : Array Value} {x : DataW H × List MemPlace}
    (h : DataW.trod enc Tryd.prog W 0 (fun _ => true) held fuel 27 (Value.agg cs).cells.toList = some x) : ∃ p i b : Int, cs = cgA p i b := by
  have c1 : Tryd.prog.cellsOf 3 = 1 := by kernel_rfl
  have cB : Tryd.prog.cellsOf 5 = 1 := by kernel_rfl
  have c3 : Tryd.prog.cellsOf 27 = 3 := by kernel_rfl
  generalize hl0 : (Value.agg cs).cells.toList = l at h
  obtain ⟨xs, m, _, hxx, hl, hx, hall⟩ := DataW.trod_struct Tryd.underlying27 h
  rw [c3] at hl
  have h0 := hall 0 _ rfl
  have h1 := hall 1 _ rfl
  have h2 := hall 2 _ rfl
  have k : xs.length = 3 := hx
  rw [List.getElem?_eq_getElem (by omega)] at h0 h1 h2
  have h0' : DataW.trod enc Tryd.prog W 0 (fun _ => true) held m 3 ((l.drop 0).take (Tryd.prog.cellsOf 3)) = some (xs[0]'(by omega)) := h0
  have h1' : DataW.trod enc Tryd.prog W 0 (fun _ => true) held m 3 ((l.drop 1).take (Tryd.prog.cellsOf 3)) = some (xs[1]'(by omega)) := h1
  have h2' : DataW.trod enc Tryd.prog W 0 (fun _ => true) held m 5 ((l.drop 2).take (Tryd.prog.cellsOf 5)) = some (xs[2]'(by omega)) := h2
  rw [c1] at h0' h1'
  rw [cB] at h2'
  obtain ⟨p, e0, _, _⟩ := DataW.trod_int Tryd.underlying3 h0'
  obtain ⟨i, e1, _, _⟩ := DataW.trod_int Tryd.underlying3 h1'
  obtain ⟨b, e2, _, _⟩ := DataW.trod_int Tryd.underlying5 h2'
  refine ⟨p, i, b, ?_⟩
  have e : l = cgL p i b := by
    obtain ⟨x0, x1, x2, rfl⟩ : ∃ x0 x1 x2, l = [x0, x1, x2] := threeL hl
    simp at e0 e1 e2
    rw [e0, e1, e2]; rfl
  unfold cgA
  rw [← e, ← hl0]; simp [Value.cells]
end Go.Proofs.YtbfgkbcpkldofaaDoor
