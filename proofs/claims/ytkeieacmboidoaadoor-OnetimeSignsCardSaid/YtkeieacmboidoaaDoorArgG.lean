/-
  Arguments opened: digests and halves as arrays of bytes (conditions in each theorem).
-/
import Derived.Test.YtkeieacmboidoaaDoorChecked
import Derived.Test.YtkeieacmboidoaaDoorDgA
import Derived.ChangeSlices
import Derived.WalkKit
import Derived.ProofKit
import Derived.OpenShut
namespace Go.Proofs.YtkeieacmboidoaaDoor
open Go.ChangeShapes Go.WideShapes Go.ChangeAt Go.RowKit

theorem okWide_arr {P : Program} {w : World} {r : Reach} {base n : Nat} {t e : TypeId} {v : Value} (ht : P.underlying t = some (.array n e)) (h : Value.okWide P w r base t v) : ∃ cs, v = .agg cs := by
  simp only [Value.okWide, ht] at h
  obtain ⟨cs, h1, _⟩ := h
  exact ⟨cs, h1⟩
/-- an array of n numbers of one kind, one cell each -/
theorem arr_cells {H : Type} {enc : TypeId × Value → H} {W : World} {base fuel n : Nat} {spare : Nat → Bool} {held : Bool} {t e : TypeId} {k : IntKind} {cs : List Value} {x : DataW H × List MemPlace}
    (ht : Tryd.prog.underlying t = some (.array n e)) (he : Tryd.prog.underlying e = some (.int k)) (c1 : Tryd.prog.cellsOf e = 1) (cn : Tryd.prog.cellsOf t = n)
    (h : DataW.trod enc Tryd.prog W base spare held fuel t cs = some x) : ∃ L : List Int, cs = L.map (Value.int k) ∧ L.length = n ∧ ∀ y ∈ L, (Lit.int k y).wf = true := by
  obtain ⟨xs, m, _, _, hl, hx, hall⟩ := DataW.trod_array ht h
  rw [cn] at hl
  rw [c1] at hall
  have each : ∀ i, (hi : i < cs.length) → cs[i] = .int k (intOf cs[i]) ∧ (Lit.int k (intOf cs[i])).wf = true := by
    intro i hi
    have h1 := hall i (by omega)
    rw [List.getElem?_eq_getElem (by omega)] at h1
    have e1 : (cs.drop (i * 1)).take 1 = [cs[i]] := by
      rw [Nat.mul_one, List.drop_eq_getElem_cons hi, List.take_succ_cons, List.take_zero]
    rw [e1] at h1
    obtain ⟨z, e0, _, wn⟩ := DataW.trod_int he h1
    have e2 : cs[i] = .int k z := by simpa using e0
    rw [e2]
    exact ⟨rfl, by simpa [intOf] using wn⟩
  refine ⟨cs.map intOf, ?_, by simp [hl], fun y hy => ?_⟩
  · apply List.ext_getElem
    · simp
    · intro i h1 h2
      simp only [List.getElem_map]
      exact (each i h1).1
  · obtain ⟨v, hv, rfl⟩ := List.mem_map.1 hy
    obtain ⟨i, hi, rfl⟩ := List.getElem_of_mem hv
    exact (each i hi).2
theorem dgArg_of {H : Type} {enc : TypeId × Value → H} {W : World} {base fuel : Nat} {spare : Nat → Bool} {held : Bool} {cs : Array Value} {x : DataW H × List MemPlace}
    (h : DataW.trod enc Tryd.prog W base spare held fuel 37 (Value.agg cs).cells.toList = some x) : ∃ L : List Int, cs = dgA L ∧ D32 L := by
  obtain ⟨L, h1, h2, h3⟩ := arr_cells Tryd.underlying37 Tryd.underlying5 (by kernel_rfl) (by kernel_rfl) h
  refine ⟨L, ?_, h2, fun y hy => ?_⟩
  · unfold dgA; rw [← h1]; simp [Value.cells]
  · have hb := bounds_u8 (h3 y hy)
    exact ⟨hb.1, by omega⟩
end Go.Proofs.YtkeieacmboidoaaDoor
