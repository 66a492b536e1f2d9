/-
  Arguments opened: halves, lists of halves, arrays of numbers (conditions in each theorem).
-/
import Derived.Test.YtkeieacmboidoaaDoorArgG
import Derived.Test.YtkeieacmboidoaaDoorOneL
import Derived.Deep.Matrix
namespace Go.Proofs.YtkeieacmboidoaaDoor
open Go.ChangeShapes Go.WideShapes Go.ChangeAt Go.RowKit

theorem hfArg_cells {H : Type} {enc : TypeId × Value → H} {W : World} {base fuel : Nat} {spare : Nat → Bool} {held : Bool} {cs : List Value} {x : DataW H × List MemPlace}
    (h : DataW.trod enc Tryd.prog W base spare held fuel 23 cs = some x) : ∃ L : List Int, cs = L.map (Value.int .u8) ∧ H16 L := by
  obtain ⟨L, h1, h2, h3⟩ := arr_cells Tryd.underlying23 Tryd.underlying5 (by kernel_rfl) (by kernel_rfl) h
  refine ⟨L, h1, h2, fun y hy => ?_⟩
  have hb := bounds_u8 (h3 y hy)
  exact ⟨hb.1, by omega⟩
theorem hfArg_of {H : Type} {enc : TypeId × Value → H} {W : World} {base fuel : Nat} {spare : Nat → Bool} {held : Bool} {cs : Array Value} {x : DataW H × List MemPlace}
    (h : DataW.trod enc Tryd.prog W base spare held fuel 23 (Value.agg cs).cells.toList = some x) : ∃ L : List Int, cs = hvA L ∧ H16 L := by
  obtain ⟨L, h1, h2⟩ := hfArg_cells h
  refine ⟨L, ?_, h2⟩
  unfold hvA; rw [← h1]; simp [Value.cells]
theorem arr2_of {H : Type} {enc : TypeId × Value → H} {W : World} {base fuel : Nat} {spare : Nat → Bool} {held : Bool} {cs : Array Value} {x : DataW H × List MemPlace}
    (h : DataW.trod enc Tryd.prog W base spare held fuel 31 (Value.agg cs).cells.toList = some x) : ∃ a0 a1 : Int, cs = #[.int .i64 a0, .int .i64 a1] ∧ (-9223372036854775808 ≤ a0 ∧ a0 ≤ 9223372036854775807) ∧ (-9223372036854775808 ≤ a1 ∧ a1 ≤ 9223372036854775807) := by
  obtain ⟨L, h1, h2, h3⟩ := arr_cells Tryd.underlying31 Tryd.underlying3 (by kernel_rfl) (by kernel_rfl) h
  have e : cs = (L.map (Value.int .i64)).toArray := by rw [← h1]; simp [Value.cells]
  match L, h2, h3, e with
  | [a0, a1], _, h3, e =>
    refine ⟨a0, a1, e, by have hb := bounds_i64 (h3 a0 (by simp)); exact ⟨hb.1, by omega⟩, by have hb := bounds_i64 (h3 a1 (by simp)); exact ⟨hb.1, by omega⟩⟩
theorem arr3_of {H : Type} {enc : TypeId × Value → H} {W : World} {base fuel : Nat} {spare : Nat → Bool} {held : Bool} {cs : Array Value} {x : DataW H × List MemPlace}
    (h : DataW.trod enc Tryd.prog W base spare held fuel 32 (Value.agg cs).cells.toList = some x) : ∃ a0 a1 a2 : Int, cs = #[.int .i64 a0, .int .i64 a1, .int .i64 a2] ∧ (-9223372036854775808 ≤ a0 ∧ a0 ≤ 9223372036854775807) ∧ (-9223372036854775808 ≤ a1 ∧ a1 ≤ 9223372036854775807) ∧ (-9223372036854775808 ≤ a2 ∧ a2 ≤ 9223372036854775807) := by
  obtain ⟨L, h1, h2, h3⟩ := arr_cells Tryd.underlying32 Tryd.underlying3 (by kernel_rfl) (by kernel_rfl) h
  have e : cs = (L.map (Value.int .i64)).toArray := by rw [← h1]; simp [Value.cells]
  match L, h2, h3, e with
  | [a0, a1, a2], _, h3, e =>
    refine ⟨a0, a1, a2, e, by have hb := bounds_i64 (h3 a0 (by simp)); exact ⟨hb.1, by omega⟩, by have hb := bounds_i64 (h3 a1 (by simp)); exact ⟨hb.1, by omega⟩, by have hb := bounds_i64 (h3 a2 (by simp)); exact ⟨hb.1, by omega⟩⟩
theorem arr4_of {H : Type} {enc : TypeId × Value → H} {W : World} {base fuel : Nat} {spare : Nat → Bool} {held : Bool} {cs : Array Value} {x : DataW H × List MemPlace}
    (h : DataW.trod enc Tryd.prog W base spare held fuel 24 (Value.agg cs).cells.toList = some x) : ∃ a0 a1 a2 a3 : Int, cs = #[.int .i64 a0, .int .i64 a1, .int .i64 a2, .int .i64 a3] ∧ (-9223372036854775808 ≤ a0 ∧ a0 ≤ 9223372036854775807) ∧ (-9223372036854775808 ≤ a1 ∧ a1 ≤ 9223372036854775807) ∧ (-9223372036854775808 ≤ a2 ∧ a2 ≤ 9223372036854775807) ∧ (-9223372036854775808 ≤ a3 ∧ a3 ≤ 9223372036854775807) := by
  obtain ⟨L, h1, h2, h3⟩ := arr_cells Tryd.underlying24 Tryd.underlying3 (by kernel_rfl) (by kernel_rfl) h
  have e : cs = (L.map (Value.int .i64)).toArray := by rw [← h1]; simp [Value.cells]
  match L, h2, h3, e with
  | [a0, a1, a2, a3], _, h3, e =>
    refine ⟨a0, a1, a2, a3, e, by have hb := bounds_i64 (h3 a0 (by simp)); exact ⟨hb.1, by omega⟩, by have hb := bounds_i64 (h3 a1 (by simp)); exact ⟨hb.1, by omega⟩, by have hb := bounds_i64 (h3 a2 (by simp)); exact ⟨hb.1, by omega⟩, by have hb := bounds_i64 (h3 a3 (by simp)); exact ⟨hb.1, by omega⟩⟩
theorem hvs_of_slice {H : Type} {enc : TypeId × Value → H} {W : World} {fuel : Nat} {held : Bool} {da : Option Addr} {n cap : Nat} {x : DataW H × List MemPlace}
    (h : DataW.trod enc Tryd.prog W 0 (fun _ => true) held fuel 25 (Value.slice da n cap).cells.toList = some x) : ∃ l, HvsIn W W.heap.size da n cap l ∧ (da = none → cap = 0) ∧ n ≤ 9223372036854775807 := by
  have c16 : Tryd.prog.cellsOf 23 = 16 := by kernel_rfl
  rcases Go.Deep.open_slice Tryd.underlying25 h with ⟨hcs, _⟩ | ⟨a, len, cap', m, k, D, Pl, hcs, _, hl, hm, hmm, _, hr⟩
  · simp [Value.cells] at hcs
    obtain ⟨rfl, rfl, rfl⟩ := hcs
    exact ⟨[], ⟨rfl, fun y hy => (by cases hy), fun h => absurd h (by omega)⟩, fun _ => rfl, by omega⟩
  · simp [Value.cells] at hcs
    obtain ⟨rfl, rfl, rfl⟩ := hcs
    simp only [if_true] at hmm
    subst hmm
    unfold maxLen at hm
    rw [c16] at hr
    have each : ∀ i, i < m → ∃ y : List Int, H16 y ∧ ∀ j, j < 16 → W.cell? ((a.add (i * 16)).add j) = (y.map (Value.int .u8))[j]? := by
      intro i hi
      obtain ⟨cs', h1, h2⟩ := hr i hi
      obtain ⟨y, rfl, hy⟩ := hfArg_cells h2
      obtain ⟨_, _, hc⟩ := World.cells?_some h1
      exact ⟨y, hy, fun j hj => hc j (by omega)⟩
    obtain ⟨f, hf⟩ := Go.Deep.choose_lt each
    refine ⟨(List.range n).map f, ⟨by simp, fun y hy => ?_, fun hn => ?_⟩, fun e => (by cases e), by omega⟩
    · obtain ⟨i, hi, rfl⟩ := List.mem_map.1 hy
      exact (hf i (by have : i < n := by simpa using hi
                      omega)).1
    · obtain ⟨b, off, spot⟩ := a
      have h0 := (hf 0 (by omega)).2 0 (by omega)
      have hz : 0 < ((f 0).map (Value.int .u8)).length := by rw [List.length_map, (hf 0 (by omega)).1.1]; omega
      have hspot : spot = none := by
        have h0' := h0
        rw [List.getElem?_eq_getElem hz] at h0'
        simpa [Addr.add] using World.cell?_spot h0'
      subst hspot
      refine ⟨b, off, rfl, World.block_lt_of_cell? W _ (by rw [List.getElem?_eq_getElem hz] at h0; simpa [Addr.add] using h0), hl, fun i hi j v hv => ?_⟩
      have e : ((List.range n).map f).getD i [] = f i := by simp [List.getD_eq_getElem?_getD, hi]
      rw [e] at hv
      have h1 := hf i (by omega)
      have hj : j < 16 := by have := (List.getElem?_eq_some_iff.1 hv).1; rw [List.length_map, h1.1.1] at this; exact this
      have h2 := h1.2 j hj
      rw [Addr.add_mid, Addr.add_mid] at h2
      rw [h2]; exact hv
end Go.Proofs.YtkeieacmboidoaaDoor
