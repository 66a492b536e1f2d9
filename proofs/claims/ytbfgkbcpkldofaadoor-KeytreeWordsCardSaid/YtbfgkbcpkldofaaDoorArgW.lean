/-
  Arguments opened: the leaf of a signature, and a slice of strings (conditions: they read as such).
-/
import Derived.Test.YtbfgkbcpkldofaaDoorArgT
import Derived.Test.YtbfgkbcpkldofaaDoorG2
import Derived.Deep.Slices
import Derived.SliceStrings
namespace Go.Proofs.YtbfgkbcpkldofaaDoor
open Go.ChangeShapes Go.WideShapes Go.ChangeAt Go.RowKit

theorem siWf {H : Type} {enc : TypeId × Value → H} {W : World} {fuel : Nat} {held : Bool} {a : Int} {c p : Value} {x : DataW H × List MemPlace}
    (h : DataW.trod enc Tryd.prog W 0 (fun _ => true) held fuel 37 (Value.agg (siA a c p)).cells.toList = some x) : -9223372036854775808 ≤ a ∧ a ≤ 9223372036854775807 := by
  have c1 : Tryd.prog.cellsOf 3 = 1 := by kernel_rfl
  obtain ⟨xs, m, _, hxx, hl, hx, hall⟩ := DataW.trod_struct Tryd.underlying37 h
  have h0 := hall 0 _ rfl
  have k : xs.length = 3 := hx
  rw [List.getElem?_eq_getElem (by omega)] at h0
  have h0' : DataW.trod enc Tryd.prog W 0 (fun _ => true) held m 3 (((Value.agg (siA a c p)).cells.toList.drop 0).take (Tryd.prog.cellsOf 3)) = some (xs[0]'(by omega)) := h0
  rw [c1] at h0'
  obtain ⟨z, e0, _, hw⟩ := DataW.trod_int Tryd.underlying3 h0'
  have e1 : [Value.int .i64 a] = [.int .i64 z] := e0
  injection e1 with e1 _
  injection e1 with _ e1
  subst e1
  exact bounds_i64 hw
set_option maxRecDepth 100000 in
theorem strW_of {H : Type} {enc : TypeId × Value → H} {W : World} {fuel : Nat} {held : Bool} {da : Option Addr} {n cap : Nat} {x : DataW H × List MemPlace}
    (h : DataW.trod enc Tryd.prog W 0 (fun _ => true) held fuel 43 (Value.slice da n cap).cells.toList = some x) : ∃ l, StrsIn W W.heap.size da n l ∧ n ≤ cap ∧ (hdB l).size ≤ 9223372036854775807 := by
  have c1 : Tryd.prog.cellsOf 9 = 1 := by kernel_rfl
  rcases open_strings Tryd.underlying43 Tryd.underlying9 c1 h with ⟨e, _⟩ | ⟨a, len, cap', ss, e, _, hl, hm, hss, _, hc, hw⟩
  · simp [Value.cells] at e
    obtain ⟨rfl, rfl, rfl⟩ := e
    exact ⟨[], ⟨rfl, fun h => absurd h (by omega)⟩, by omega, by show (0 : Nat) ≤ _; omega⟩
  · simp [Value.cells] at e
    obtain ⟨rfl, rfl, rfl⟩ := e
    simp only [if_true] at hss
    unfold maxLen at hm hw
    have hlen : (ss.take n).length = n := by rw [List.length_take]; omega
    refine ⟨ss.take n, ⟨hlen, fun hn => ?_⟩, hl, ?_⟩
    · obtain ⟨b, off, spot⟩ := a
      have h0 := hc 0 (by omega)
      have hspot : spot = none := by simpa [Addr.add] using World.cell?_spot h0
      subst hspot
      refine ⟨b, off, rfl, World.block_lt_of_cell? W _ (by simpa [Addr.add] using h0), fun i hi => ?_⟩
      rw [hlen] at hi
      have h1 := hc i (by omega)
      rw [Addr.add_mid] at h1
      rw [h1]
      rw [List.getElem_take, List.getD_eq_getElem?_getD, List.getElem?_eq_getElem (by omega)]; rfl
    · unfold hdB
      rw [List.getD_eq_getElem?_getD]
      by_cases hn : 0 < n
      · rw [List.getElem?_eq_getElem (by omega)]
        exact hw _ (List.mem_of_mem_take (List.getElem_mem _))
      · rw [List.getElem?_eq_none (by omega)]; show (0 : Nat) ≤ _; omega
end Go.Proofs.YtbfgkbcpkldofaaDoor
