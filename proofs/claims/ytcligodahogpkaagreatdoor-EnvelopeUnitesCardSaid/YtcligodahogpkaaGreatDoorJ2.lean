/-
  Arguments opened: public keys, signers and signatures (condition: they read as such).
-/
import Derived.Test.YtcligodahogpkaaGreatDoorZip
import Derived.ChangeSlices
import Derived.ProofKit
import Derived.OpenShut
import Derived.Deep.Matrix
import Derived.Deep.Slices
import Derived.SliceStrings
import Derived.ShutString
import Derived.ChangeOld
import Derived.Test.YtcligodahogpkaaGreatDoorEnvR
set_option maxRecDepth 100000
set_option maxHeartbeats 8000000
namespace Go.Proofs.YtcligodahogpkaaGreatDoor
open Go.ChangeShapes Go.WideShapes Go.ChangeAt Go.RowKit
instance : Inhabited Ln := ⟨⟨none, 0, 0, []⟩⟩
theorem lV {H : Type} {enc : TypeId × Value → H} {W : World} {fuel : Nat} {held : Bool} {sp : Option Addr} {n cap : Nat} {x : DataW H × List MemPlace}
 (h : DataW.trod enc Tryz.prog W 0 (fun _ => true) held fuel 22 (Value.slice sp n cap).cells.toList = some x) : ∃ l, BSrc W W.heap.size sp n cap l := by
 rcases open_ints Tryz.underlying22 Tryz.underlying5 (by kernel_rfl) h with ⟨hcs, _⟩ | ⟨a, len, cap', zs, hcs, _, hl, hm, hzl, _, hc, hz⟩
 ·simp [Value.cells] at hcs
  obtain ⟨rfl, rfl, rfl⟩ := hcs
  exact ⟨[], rfl, fun h => absurd h (by omega)⟩
 ·simp [Value.cells] at hcs
  obtain ⟨rfl, rfl, rfl⟩ := hcs
  simp only [if_true] at hzl
  refine ⟨(zs.take n).map fun z => UInt8.ofNat z.toNat, by rw [List.length_map, List.length_take]; omega, fun hn => ?_⟩
  obtain ⟨b, off, spot⟩ := a
  have h0 := hc 0 (by omega)
  have hspot : spot = none := by simpa [Addr.add] using World.cell?_spot h0
  subst hspot
  refine ⟨b, off, rfl, World.block_lt_of_cell? W _ (by simpa [Addr.add] using h0), hl, fun j hj => ?_⟩
  rw [List.length_map, List.length_take] at hj
  have h1 := hc j (by omega)
  rw [Addr.add_mid] at h1
  have hb := bounds_u8 (hz (zs[j]'(by omega)) (List.getElem_mem (by omega)))
  have hg : zs.getD j 0 = zs[j]'(by omega) := by rw [List.getD_eq_getElem?_getD, List.getElem?_eq_getElem (by omega)]; rfl
  rw [h1, hg]
  simp; omega
instance : Inhabited Sg := ⟨⟨0, [], 0, none, 0, 0, [], none, 0, 0, []⟩⟩
theorem rA {H : Type} {enc : TypeId × Value → H} {W : World} {fuel : Nat} {held : Bool} {cs : List Value} {x : DataW H × List MemPlace}
 (h : DataW.trod enc Tryz.prog W 0 (fun _ => true) held fuel 22 cs = some x) : ∃ sp n cap l, cs = [.slice sp n cap] ∧ BSrc W W.heap.size sp n cap l ∧ (sp = none → cap = 0) ∧ n ≤ cap := by
 rcases Go.Deep.open_slice Tryz.underlying22 h with ⟨hcs, _⟩ | ⟨a, len, cap', m, k, D, Pl, hcs, _, hle, _⟩
 ·subst hcs
  obtain ⟨l, h1⟩ := lV (sp := none) (n := 0) (cap := 0) h
  exact ⟨none, 0, 0, l, rfl, h1, fun _ => rfl, Nat.le_refl _⟩
 ·subst hcs
  obtain ⟨l, h1⟩ := lV (sp := some a) (n := len) (cap := cap') h
  exact ⟨some a, len, cap', l, rfl, h1, (fun e => nomatch e), hle⟩
theorem zV {l : List Value} {a b c d : Value} (hl : l.length = 4) (e0 : (l.drop 0).take 1 = [a]) (e1 : (l.drop 1).take 1 = [b]) (e2 : (l.drop 2).take 1 = [c]) (e3 : (l.drop 3).take 1 = [d]) : l = [a, b, c, d] := by
 match l, hl with
 | [x0, x1, x2, x3], _ => simp at e0 e1 e2 e3; rw [e0, e1, e2, e3]
theorem tQ {w : World} {r : Reach} {base : Nat} {v : Value} (h : Value.okWide Tryz.prog w r base 27 v) : ∃ cs, v = .agg cs := by
 simp only [Value.okWide, Tryz.underlying27] at h
 obtain ⟨cs, h1, _⟩ := h
 exact ⟨cs, h1⟩
theorem yJ {H : Type} {enc : TypeId × Value → H} {W : World} {fuel : Nat} {held : Bool} {cs : Array Value} {x : DataW H × List MemPlace}
 (h : DataW.trod enc Tryz.prog W 0 (fun _ => true) held fuel 27 (Value.agg cs).cells.toList = some x) : ∃ (sp : Option Addr) (n cap : Nat) (b : List UInt8) (sc : Option Addr) (nc cc : Nat) (sn : List UInt8) (kk yy : Int), cs = caA (.slice sp n cap) (.slice sc nc cc) kk yy ∧
  BSrc W W.heap.size sp n cap b ∧ (sp = none → cap = 0) ∧ n ≤ cap ∧ BSrc W W.heap.size sc nc cc sn ∧ (0 ≤ yy ∧ yy < 256) := by
 have c1 : Tryz.prog.cellsOf 3 = 1 := by kernel_rfl
 have c2 : Tryz.prog.cellsOf 22 = 1 := by kernel_rfl
 have c3 : Tryz.prog.cellsOf 5 = 1 := by kernel_rfl
 have c4 : Tryz.prog.cellsOf 27 = 4 := by kernel_rfl
 generalize hl0 : (Value.agg cs).cells.toList = l at h
 obtain ⟨xs, m, _, hxx, hl, hx, hall⟩ := DataW.trod_struct Tryz.underlying27 h
 rw [c4] at hl
 have h0 := hall 0 _ rfl
 have h1 := hall 1 _ rfl
 have h2 := hall 2 _ rfl
 have h3 := hall 3 _ rfl
 have k : xs.length = 4 := hx
 rw [List.getElem?_eq_getElem (by omega)] at h0 h1 h2 h3
 have h0' : DataW.trod enc Tryz.prog W 0 (fun _ => true) held m 22 ((l.drop 0).take (Tryz.prog.cellsOf 22)) = some (xs[0]'(by omega)) := h0
 have h1' : DataW.trod enc Tryz.prog W 0 (fun _ => true) held m 22 ((l.drop 1).take (Tryz.prog.cellsOf 22)) = some (xs[1]'(by omega)) := h1
 have h2' : DataW.trod enc Tryz.prog W 0 (fun _ => true) held m 3 ((l.drop 2).take (Tryz.prog.cellsOf 3)) = some (xs[2]'(by omega)) := h2
 have h3' : DataW.trod enc Tryz.prog W 0 (fun _ => true) held m 5 ((l.drop 3).take (Tryz.prog.cellsOf 5)) = some (xs[3]'(by omega)) := h3
 rw [c2] at h0' h1'
 rw [c1] at h2'
 rw [c3] at h3'
 obtain ⟨sp, n, cap, b, e0, q0, z0, hle⟩ := rA h0'
 obtain ⟨sc, nc, cc, sn, e1, q1, _, _⟩ := rA h1'
 obtain ⟨kk, e2, _, _⟩ := DataW.trod_int Tryz.underlying3 h2'
 obtain ⟨yy, e3, _, wy⟩ := DataW.trod_int Tryz.underlying5 h3'
 have hy := bounds_u8 wy
 refine ⟨sp, n, cap, b, sc, nc, cc, sn, kk, yy, ?_, q0, z0, hle, q1, hy.1, by omega⟩
 have e : l = caL (.slice sp n cap) (.slice sc nc cc) kk yy := zV hl e0 e1 e2 e3
 unfold caA
 rw [← e, ← hl0]; simp [Value.cells]
end Go.Proofs.YtcligodahogpkaaGreatDoor
