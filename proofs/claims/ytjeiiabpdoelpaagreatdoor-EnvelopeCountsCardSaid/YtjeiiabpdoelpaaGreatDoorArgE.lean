/-
  Arguments opened: envelopes and the statements' cases (condition: they read as such).
-/
import Derived.ChangeSlices
import Derived.Deep.Matrix
import Derived.Test.YtjeiiabpdoelpaaGreatDoorArgM
import Derived.Test.YtjeiiabpdoelpaaGreatDoorEnvR
namespace Go.Proofs.YtjeiiabpdoelpaaGreatDoor
open Go.ChangeShapes Go.WideShapes Go.ChangeAt Go.RowKit
instance : Inhabited Sg := ⟨⟨0, [], 0, none, 0, 0, [], none, 0, 0, []⟩⟩
theorem bys_cellsE {H : Type} {enc : TypeId × Value → H} {W : World} {fuel : Nat} {held : Bool} {cs : List Value} {x : DataW H × List MemPlace}
 (h : DataW.trod enc Tryz.prog W 0 (fun _ => true) held fuel 22 cs = some x) : ∃ sp n cap l, cs = [.slice sp n cap] ∧ BSrc W W.heap.size sp n cap l ∧ (sp = none → cap = 0) ∧ n ≤ cap := by
 rcases Go.Deep.open_slice Tryz.underlying22 h with ⟨hcs, _⟩ | ⟨a, len, cap', m, k, D, Pl, hcs, _, hle, _⟩
 ·subst hcs
  obtain ⟨l, h1⟩ := bsrc_of_bytes (sp := none) (n := 0) (cap := 0) h
  exact ⟨none, 0, 0, l, rfl, h1, fun _ => rfl, Nat.le_refl _⟩
 ·subst hcs
  obtain ⟨l, h1⟩ := bsrc_of_bytes (sp := some a) (n := len) (cap := cap') h
  exact ⟨some a, len, cap', l, rfl, h1, (fun e => nomatch e), hle⟩
theorem four_cells {l : List Value} {a b c d : Value} (hl : l.length = 4) (e0 : (l.drop 0).take 1 = [a]) (e1 : (l.drop 1).take 1 = [b]) (e2 : (l.drop 2).take 1 = [c]) (e3 : (l.drop 3).take 1 = [d]) : l = [a, b, c, d] := by
 match l, hl with
 | [x0, x1, x2, x3], _ => simp at e0 e1 e2 e3; rw [e0, e1, e2, e3]
set_option maxRecDepth 100000 in
theorem okWide_ca {w : World} {r : Reach} {base : Nat} {v : Value} (h : Value.okWide Tryz.prog w r base 27 v) : ∃ cs, v = .agg cs := by
 simp only [Value.okWide, Tryz.underlying27] at h
 obtain ⟨cs, h1, _⟩ := h
 exact ⟨cs, h1⟩
theorem caArg_of {H : Type} {enc : TypeId × Value → H} {W : World} {fuel : Nat} {held : Bool} {cs : Array Value} {x : DataW H × List MemPlace}
 (h : DataW.trod enc Tryz.prog W 0 (fun _ => true) held fuel 27 (Value.agg cs).cells.toList = some x) : ∃ (sp : Option Addr) (n cap : Nat) (b : List UInt8) (sc : Option Addr) (nc cc : Nat) (sn : List UInt8) (kk yy : Int), cs = caA (.slice sp n cap) (.slice sc nc cc) kk yy ∧
  BSrc W W.heap.size sp n cap b ∧ (sp = none → cap = 0) ∧ n ≤ cap ∧ BSrc W W.heap.size sc nc cc sn ∧ (0 ≤ yy ∧ yy < 256) := by
 have c1 : Tryz.prog.cellsOf 3 = 1 := by kernel_rfl
 have c2 : Tryz.prog.cellsOf 22 = 1 := by kernel_rfl
 have c3 : Tryz.prog.cellsOf 5 = 1 := by kernel_rfl
 have c4 : Tryz.prog.cellsOf 27 = 4 := by kernel_rfl
 generalize hl0 : (Value.agg cs).cells.toList = l at h
 obtain ⟨xs, m, _, hxx, hl, hx, hall⟩ := DataW.trod_struct Tryz.underlying27 h
 rw [c4] at hl
 have h0 := hall 0 _ rfl
 have h1 := hall 1 _ rfl
 have h2 := hall 2 _ rfl
 have h3 := hall 3 _ rfl
 have k : xs.length = 4 := hx
 rw [List.getElem?_eq_getElem (by omega)] at h0 h1 h2 h3
 have h0' : DataW.trod enc Tryz.prog W 0 (fun _ => true) held m 22 ((l.drop 0).take (Tryz.prog.cellsOf 22)) = some (xs[0]'(by omega)) := h0
 have h1' : DataW.trod enc Tryz.prog W 0 (fun _ => true) held m 22 ((l.drop 1).take (Tryz.prog.cellsOf 22)) = some (xs[1]'(by omega)) := h1
 have h2' : DataW.trod enc Tryz.prog W 0 (fun _ => true) held m 3 ((l.drop 2).take (Tryz.prog.cellsOf 3)) = some (xs[2]'(by omega)) := h2
 have h3' : DataW.trod enc Tryz.prog W 0 (fun _ => true) held m 5 ((l.drop 3).take (Tryz.prog.cellsOf 5)) = some (xs[3]'(by omega)) := h3
 rw [c2] at h0' h1'
 rw [c1] at h2'
 rw [c3] at h3'
 obtain ⟨sp, n, cap, b, e0, q0, z0, hle⟩ := bys_cellsE h0'
 obtain ⟨sc, nc, cc, sn, e1, q1, _, _⟩ := bys_cellsE h1'
 obtain ⟨kk, e2, _, _⟩ := DataW.trod_int Tryz.underlying3 h2'
 obtain ⟨yy, e3, _, wy⟩ := DataW.trod_int Tryz.underlying5 h3'
 have hy := bounds_u8 wy
 refine ⟨sp, n, cap, b, sc, nc, cc, sn, kk, yy, ?_, q0, z0, hle, q1, hy.1, by omega⟩
 have e : l = caL (.slice sp n cap) (.slice sc nc cc) kk yy := four_cells hl e0 e1 e2 e3
 unfold caA
 rw [← e, ← hl0]; simp [Value.cells]
end Go.Proofs.YtjeiiabpdoelpaaGreatDoor
