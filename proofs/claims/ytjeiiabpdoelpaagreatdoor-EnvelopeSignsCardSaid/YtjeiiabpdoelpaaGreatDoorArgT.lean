/-
  Arguments opened: public keys, signers and signatures (condition: they read as such).
-/
import Derived.Test.YtjeiiabpdoelpaaGreatDoorGv
import Derived.Test.YtjeiiabpdoelpaaGreatDoorGq
namespace Go.Proofs.YtjeiiabpdoelpaaGreatDoor
open Go.ChangeShapes Go.WideShapes Go.ChangeAt Go.RowKit
set_option maxRecDepth 100000 in
theorem AL {w : World} {r : Reach} {base : Nat} {v : Value} (h : Value.okWide Tryz.prog w r base 39 v) : ∃ cs, v = .agg cs := by
 simp only [Value.okWide, Tryz.underlying39] at h
 obtain ⟨cs, h1, _⟩ := h
 exact ⟨cs, h1⟩
theorem EC {H : Type} {enc : TypeId × Value → H} {W : World} {fuel : Nat} {held : Bool} {cs : Array Value} {x : DataW H × List MemPlace}
 (h : DataW.trod enc Tryz.prog W 0 (fun _ => true) held fuel 64 (Value.agg cs).cells.toList = some x) : ∃ (n : Int) (L : List Int), cs = pkA n L ∧ H16 L := by
 have c1 : Tryz.prog.cellsOf 3 = 1 := by kernel_rfl
 have c16 : Tryz.prog.cellsOf 37 = 16 := by kernel_rfl
 have c17 : Tryz.prog.cellsOf 64 = 17 := by kernel_rfl
 generalize hl0 : (Value.agg cs).cells.toList = l at h
 obtain ⟨xs, m, _, hxx, hl, hx, hall⟩ := DataW.trod_struct Tryz.underlying64 h
 rw [c17] at hl
 have h0 := hall 0 _ rfl
 have h1 := hall 1 _ rfl
 have k : xs.length = 2 := hx
 rw [List.getElem?_eq_getElem (by omega)] at h0 h1
 have h0' : DataW.trod enc Tryz.prog W 0 (fun _ => true) held m 3 ((l.drop 0).take (Tryz.prog.cellsOf 3)) = some (xs[0]'(by omega)) := h0
 have h1' : DataW.trod enc Tryz.prog W 0 (fun _ => true) held m 37 ((l.drop 1).take (Tryz.prog.cellsOf 37)) = some (xs[1]'(by omega)) := h1
 rw [c1] at h0'
 rw [c16] at h1'
 obtain ⟨z, e1, _, _⟩ := DataW.trod_int Tryz.underlying3 h0'
 obtain ⟨L1, e2, k1⟩ := jY h1'
 refine ⟨z, L1, ?_, k1⟩
 have e : l = pkL z L1 := by
  show l = [.int .i64 z] ++ L1.map (Value.int .u8)
  rw [List.drop_zero] at e1
  have a3 : (l.drop 1).take 16 = l.drop 1 := List.take_of_length_le (by rw [List.length_drop]; omega)
  rw [a3] at e2
  rw [← e1, ← e2]
  exact (List.take_append_drop 1 l).symm
 unfold pkA
 rw [← e, ← hl0]; simp [Value.cells]
theorem DS {H : Type} {enc : TypeId × Value → H} {W : World} {fuel : Nat} {held : Bool} {cs : Array Value} {x : DataW H × List MemPlace}
 (h : DataW.trod enc Tryz.prog W 0 (fun _ => true) held fuel 39 (Value.agg cs).cells.toList = some x) : ∃ (L : List Int) (a n : Int), cs = sgA L a n ∧ H16 L := by
 have c1 : Tryz.prog.cellsOf 3 = 1 := by kernel_rfl
 have c16 : Tryz.prog.cellsOf 37 = 16 := by kernel_rfl
 have c18 : Tryz.prog.cellsOf 39 = 18 := by kernel_rfl
 generalize hl0 : (Value.agg cs).cells.toList = l at h
 obtain ⟨xs, m, _, hxx, hl, hx, hall⟩ := DataW.trod_struct Tryz.underlying39 h
 rw [c18] at hl
 have h0 := hall 0 _ rfl
 have h1 := hall 1 _ rfl
 have h2 := hall 2 _ rfl
 have k : xs.length = 3 := hx
 rw [List.getElem?_eq_getElem (by omega)] at h0 h1 h2
 have h0' : DataW.trod enc Tryz.prog W 0 (fun _ => true) held m 37 ((l.drop 0).take (Tryz.prog.cellsOf 37)) = some (xs[0]'(by omega)) := h0
 have h1' : DataW.trod enc Tryz.prog W 0 (fun _ => true) held m 3 ((l.drop 16).take (Tryz.prog.cellsOf 3)) = some (xs[1]'(by omega)) := h1
 have h2' : DataW.trod enc Tryz.prog W 0 (fun _ => true) held m 3 ((l.drop 17).take (Tryz.prog.cellsOf 3)) = some (xs[2]'(by omega)) := h2
 rw [c16] at h0'
 rw [c1] at h1' h2'
 obtain ⟨L1, e0, k1⟩ := jY h0'
 obtain ⟨a, e1, _, _⟩ := DataW.trod_int Tryz.underlying3 h1'
 obtain ⟨n, e2, _, _⟩ := DataW.trod_int Tryz.underlying3 h2'
 refine ⟨L1, a, n, ?_, k1⟩
 have e : l = sgL L1 a n := by
  show l = L1.map (Value.int .u8) ++ ([.int .i64 a] ++ [.int .i64 n])
  rw [List.drop_zero] at e0
  have a3 : (l.drop 17).take 1 = l.drop 17 := List.take_of_length_le (by rw [List.length_drop]; omega)
  rw [a3] at e2
  rw [← e0, ← e1, ← e2]
  have b1 : l.drop 17 = (l.drop 16).drop 1 := by rw [List.drop_drop]
  rw [b1, List.take_append_drop 1 (l.drop 16)]
  exact (List.take_append_drop 16 l).symm
 unfold sgA
 rw [← e, ← hl0]; simp [Value.cells]
theorem sK {H : Type} {enc : TypeId × Value → H} {W : World} {fuel : Nat} {held : Bool} {cs : List Value} {x : DataW H × List MemPlace}
 (h : DataW.trod enc Tryz.prog W 0 (fun _ => true) held fuel 65 cs = some x) : ∃ sp n cap l, cs = [.slice sp n cap] ∧ HvsIn W W.heap.size sp n cap l ∧ (sp = none → cap = 0) ∧ n ≤ 9223372036854775807 := by
 rcases Go.Deep.open_slice Tryz.underlying65 h with ⟨hcs, _⟩ | ⟨a, len, cap', m, k, D, Pl, hcs, _⟩
 ·subst hcs
  obtain ⟨l, h1, h2, h3⟩ := lY (da := none) (n := 0) (cap := 0) h
  exact ⟨none, 0, 0, l, rfl, h1, h2, h3⟩
 ·subst hcs
  obtain ⟨l, h1, h2, h3⟩ := lY (da := some a) (n := len) (cap := cap') h
  exact ⟨some a, len, cap', l, rfl, h1, h2, h3⟩
theorem DO {H : Type} {enc : TypeId × Value → H} {W : World} {fuel : Nat} {held : Bool} {cs : Array Value} {x : DataW H × List MemPlace}
 (h : DataW.trod enc Tryz.prog W 0 (fun _ => true) held fuel 67 (Value.agg cs).cells.toList = some x) : ∃ (a : Int) (sp1 : Option Addr) (n1 c1 : Nat) (l1 : List (List Int)) (sp2 : Option Addr) (n2 c2 : Nat) (l2 : List (List Int)), cs = siA a (.slice sp1 n1 c1) (.slice sp2 n2 c2) ∧
  HvsIn W W.heap.size sp1 n1 c1 l1 ∧ HvsIn W W.heap.size sp2 n2 c2 l2 ∧ (sp1 = none → c1 = 0) ∧ (sp2 = none → c2 = 0) := by
 have c1 : Tryz.prog.cellsOf 3 = 1 := by kernel_rfl
 have cs1 : Tryz.prog.cellsOf 65 = 1 := by kernel_rfl
 have c3 : Tryz.prog.cellsOf 67 = 3 := by kernel_rfl
 generalize hl0 : (Value.agg cs).cells.toList = l at h
 obtain ⟨xs, m, _, hxx, hl, hx, hall⟩ := DataW.trod_struct Tryz.underlying67 h
 rw [c3] at hl
 have h0 := hall 0 _ rfl
 have h1 := hall 1 _ rfl
 have h2 := hall 2 _ rfl
 have k : xs.length = 3 := hx
 rw [List.getElem?_eq_getElem (by omega)] at h0 h1 h2
 have h0' : DataW.trod enc Tryz.prog W 0 (fun _ => true) held m 3 ((l.drop 0).take (Tryz.prog.cellsOf 3)) = some (xs[0]'(by omega)) := h0
 have h1' : DataW.trod enc Tryz.prog W 0 (fun _ => true) held m 65 ((l.drop 1).take (Tryz.prog.cellsOf 65)) = some (xs[1]'(by omega)) := h1
 have h2' : DataW.trod enc Tryz.prog W 0 (fun _ => true) held m 65 ((l.drop 2).take (Tryz.prog.cellsOf 65)) = some (xs[2]'(by omega)) := h2
 rw [c1] at h0'
 rw [cs1] at h1' h2'
 obtain ⟨a, e0, _, _⟩ := DataW.trod_int Tryz.underlying3 h0'
 obtain ⟨p1, n1, k1, l1, e1, q1, z1, _⟩ := sK h1'
 obtain ⟨p2, n2, k2, l2, e2, q2, z2, _⟩ := sK h2'
 refine ⟨a, p1, n1, k1, l1, p2, n2, k2, l2, ?_, q1, q2, z1, z2⟩
 have e : l = siL a (.slice p1 n1 k1) (.slice p2 n2 k2) := by
  show l = [.int .i64 a] ++ ([.slice p1 n1 k1] ++ [.slice p2 n2 k2])
  rw [List.drop_zero] at e0
  have a3 : (l.drop 2).take 1 = l.drop 2 := List.take_of_length_le (by rw [List.length_drop]; omega)
  rw [a3] at e2
  rw [← e0, ← e1, ← e2]
  have b1 : l.drop 2 = (l.drop 1).drop 1 := by rw [List.drop_drop]
  rw [b1, List.take_append_drop 1 (l.drop 1)]
  exact (List.take_append_drop 1 l).symm
 unfold siA
 rw [← e, ← hl0]; simp [Value.cells]
end Go.Proofs.YtjeiiabpdoelpaaGreatDoor
