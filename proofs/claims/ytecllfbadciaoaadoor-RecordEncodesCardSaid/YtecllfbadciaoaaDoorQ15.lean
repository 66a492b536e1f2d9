/-
  Slices of numbers in an argument, opened.
-/
import Derived.Test.YtecllfbadciaoaaDoorQ14
import Derived.SliceStrings
set_option maxRecDepth 100000
set_option maxHeartbeats 8000000
namespace Go.Proofs.YtecllfbadciaoaaDoor
open Go.ChangeShapes Go.WideShapes Go.ChangeAt Go.RowKit
theorem ints_of_slice {H : Type} {enc : TypeId × Value → H} {W : World} {fuel : Nat} {held : Bool} {da : Option Addr} {n cap : Nat} {x : DataW H × List MemPlace}
 (h : DataW.trod enc Tryd.prog W 0 (fun _ => true) held fuel 27 (Value.slice da n cap).cells.toList = some x) : ∃ l, IntsT W W.heap.size da n cap l := by
 have c1 : Tryd.prog.cellsOf 3 = 1 := by kernel_rfl
 rcases Go.Deep.open_slice Tryd.underlying27 h with ⟨hcs, _⟩ | ⟨a, len, cap', m, k, D, Pl, hcs, _, hl, hm, hmm, _, hr⟩
 ·simp [Value.cells] at hcs
  obtain ⟨rfl, rfl, rfl⟩ := hcs
  exact ⟨[], ⟨rfl, fun h => absurd h (by omega), by simp, by omega⟩⟩
 ·simp [Value.cells] at hcs
  obtain ⟨rfl, rfl, rfl⟩ := hcs
  simp only [if_true] at hmm
  subst hmm
  unfold maxLen at hm
  rw [c1] at hr
  have each : ∀ i, i < m → ∃ v : Int, (-9223372036854775808 ≤ v ∧ v ≤ 9223372036854775807) ∧ W.cell? (a.add (i * 1)) = some (.int .i64 v) := by
   intro i hi
   obtain ⟨cs', h1, h2⟩ := hr i hi
   obtain ⟨v, rfl, _, wn⟩ := DataW.trod_int Tryd.underlying3 h2
   obtain ⟨_, _, hc⟩ := World.cells?_some h1
   have h3 := hc 0 (by omega)
   have h4 : (a.add (i * 1)).add 0 = a.add (i * 1) := by
    cases a with
    | mk b o s => cases s <;> simp [Addr.add]
   rw [h4] at h3
   exact ⟨v, bounds_i64 wn, h3⟩
  obtain ⟨f, hf⟩ := Go.Deep.choose_lt each
  refine ⟨(List.range n).map f, ⟨by simp, fun hn => ?_, fun y hy => ?_, by omega⟩⟩
  ·obtain ⟨b, off, spot⟩ := a
   have h0 := (hf 0 (by omega)).2
   have hspot : spot = none := by simpa [Addr.add] using World.cell?_spot h0
   subst hspot
   refine ⟨b, off, rfl, World.block_lt_of_cell? W _ (by simpa [Addr.add] using h0), hl, fun i v hv => ?_⟩
   have hi : i < n := by have := (List.getElem?_eq_some_iff.1 hv).1; simpa using this
   have e : v = f i := by rw [List.getElem?_map, List.getElem?_range hi] at hv; exact (Option.some.inj hv).symm
   subst e
   have h2 := (hf i (by omega)).2
   rw [Addr.add_mid, Nat.mul_one] at h2
   exact h2
  ·obtain ⟨i, hi, rfl⟩ := List.mem_map.1 hy
   exact (hf i (by have : i < n := by simpa using hi
                   omega)).1
instance : Inhabited Vr := ⟨⟨ByteArray.empty, ByteArray.empty⟩⟩
theorem two_cells {l : List Value} {a b : Value} (hl : l.length = 2) (e0 : (l.drop 0).take 1 = [a]) (e1 : (l.drop 1).take 1 = [b]) : l = [a, b] := by
 match l, hl with
 | [x0, x1], _ => simp at e0 e1; rw [e0, e1]
theorem vr_cells {H : Type} {enc : TypeId × Value → H} {W : World} {fuel : Nat} {held : Bool} {cs : List Value} {x : DataW H × List MemPlace}
 (h : DataW.trod enc Tryd.prog W 0 (fun _ => true) held fuel 48 cs = some x) : ∃ y : Vr, cs = vrL y ∧ y.n.size ≤ maxLen ∧ y.v.size ≤ maxLen := by
 have c1 : Tryd.prog.cellsOf 9 = 1 := by kernel_rfl
 have c2 : Tryd.prog.cellsOf 48 = 2 := by kernel_rfl
 obtain ⟨xs, m, _, _, hl, hx, hall⟩ := DataW.trod_struct Tryd.underlying48 h
 rw [c2] at hl
 have h0 := hall 0 _ rfl
 have h1 := hall 1 _ rfl
 have k : xs.length = 2 := hx
 rw [List.getElem?_eq_getElem (by omega)] at h0 h1
 have h0' : DataW.trod enc Tryd.prog W 0 (fun _ => true) held m 9 ((cs.drop 0).take (Tryd.prog.cellsOf 9)) = some (xs[0]'(by omega)) := h0
 have h1' : DataW.trod enc Tryd.prog W 0 (fun _ => true) held m 9 ((cs.drop 1).take (Tryd.prog.cellsOf 9)) = some (xs[1]'(by omega)) := h1
 rw [c1] at h0' h1'
 obtain ⟨s, e0, _, z0⟩ := DataW.trod_string Tryd.underlying9 h0'
 obtain ⟨s', e1, _, z1⟩ := DataW.trod_string Tryd.underlying9 h1'
 exact ⟨⟨s, s'⟩, two_cells hl e0 e1, z0, z1⟩
theorem vrs_cells {H : Type} {enc : TypeId × Value → H} {W : World} {fuel : Nat} {held : Bool} {cs : List Value} {x : DataW H × List MemPlace}
 (h : DataW.trod enc Tryd.prog W 0 (fun _ => true) held fuel 23 cs = some x) : ∃ sp n cap l, cs = [.slice sp n cap] ∧ VrsIn W W.heap.size sp n cap l ∧ n ≤ maxLen ∧ ∀ y ∈ l, y.n.size ≤ maxLen ∧ y.v.size ≤ maxLen := by
 have c2 : Tryd.prog.cellsOf 48 = 2 := by kernel_rfl
 rcases Go.Deep.open_slice Tryd.underlying23 h with ⟨hcs, _⟩ | ⟨a, n, cap, m, k, D, Pl, hcs, _, hl, hm, hmm, _, hr⟩
 ·exact ⟨none, 0, 0, [], hcs, ⟨rfl, fun h => absurd h (by omega)⟩, by unfold maxLen; omega, fun y hy => by cases hy⟩
 ·simp only [if_true] at hmm
  subst hmm
  rw [c2] at hr
  have each : ∀ i, i < m → ∃ y : Vr, (y.n.size ≤ maxLen ∧ y.v.size ≤ maxLen) ∧ ∀ j, j < 2 → W.cell? ((a.add (i * 2)).add j) = (vrL y)[j]? := by
   intro i hi
   obtain ⟨cs', h1, h2⟩ := hr i hi
   obtain ⟨y, rfl, hy⟩ := vr_cells h2
   obtain ⟨_, _, hc⟩ := World.cells?_some h1
   exact ⟨y, hy, fun j hj => hc j (by omega)⟩
  obtain ⟨f, hf⟩ := Go.Deep.choose_lt each
  refine ⟨some a, n, m, (List.range n).map f, hcs, ⟨by simp, fun hn => ?_⟩, by omega, fun y hy => ?_⟩
  ·obtain ⟨b, off, spot⟩ := a
   have h0 := (hf 0 (by omega)).2 0 (by omega)
   have hspot : spot = none := by simpa [Addr.add] using World.cell?_spot (h0.trans (by rfl))
   subst hspot
   refine ⟨b, off, rfl, World.block_lt_of_cell? W _ (by simpa [Addr.add, vrL] using h0), hl, fun i y hy j v hv => ?_⟩
   have hi : i < n := by have := (List.getElem?_eq_some_iff.1 hy).1; simpa using this
   have e : y = f i := by rw [List.getElem?_map, List.getElem?_range hi] at hy; exact (Option.some.inj hy).symm
   subst e
   have h1 := hf i (by omega)
   have hj : j < 2 := (List.getElem?_eq_some_iff.1 hv).1
   have h2 := h1.2 j hj
   rw [Addr.add_mid, Addr.add_mid] at h2
   rw [h2]; exact hv
  ·obtain ⟨i, hi, rfl⟩ := List.mem_map.1 hy
   exact (hf i (by have : i < n := by simpa using hi
                   omega)).1
theorem strs_cells {H : Type} {enc : TypeId × Value → H} {W : World} {fuel : Nat} {held : Bool} {cs : List Value} {x : DataW H × List MemPlace}
 (h : DataW.trod enc Tryd.prog W 0 (fun _ => true) held fuel 22 cs = some x) : ∃ sp n cap l, cs = [.slice sp n cap] ∧ StrsIn W W.heap.size sp n l ∧ n ≤ maxLen ∧ ∀ y ∈ l, y.size ≤ maxLen := by
 have c1 : Tryd.prog.cellsOf 9 = 1 := by kernel_rfl
 rcases open_strings Tryd.underlying22 Tryd.underlying9 c1 h with ⟨e, _⟩ | ⟨a, n, cap, ss, e, _, hl, hm, hss, _, hc, hw⟩
 ·exact ⟨none, 0, 0, [], e, ⟨rfl, fun h => absurd h (by omega)⟩, by unfold maxLen; omega, fun y hy => by cases hy⟩
 ·simp only [if_true] at hss
  have hlen : (ss.take n).length = n := by rw [List.length_take]; omega
  refine ⟨some a, n, cap, ss.take n, e, ⟨hlen, fun hn => ?_⟩, by omega, fun y hy => hw y (List.mem_of_mem_take hy)⟩
  obtain ⟨b, off, spot⟩ := a
  have h0 := hc 0 (by omega)
  have hspot : spot = none := by simpa [Addr.add] using World.cell?_spot h0
  subst hspot
  refine ⟨b, off, rfl, World.block_lt_of_cell? W _ (by simpa [Addr.add] using h0), fun i hi => ?_⟩
  rw [hlen] at hi
  have h1 := hc i (by omega)
  rw [Addr.add_mid] at h1
  rw [h1]
  rw [List.getElem_take, List.getD_eq_getElem?_getD, List.getElem?_eq_getElem (by omega)]; rfl
theorem ens_cells {H : Type} {enc : TypeId × Value → H} {W : World} {fuel : Nat} {held : Bool} {cs : List Value} {x : DataW H × List MemPlace}
 (h : DataW.trod enc Tryd.prog W 0 (fun _ => true) held fuel 24 cs = some x) : ∃ sp n cap l, cs = [.slice sp n cap] ∧ EnsIn W W.heap.size sp n cap l ∧ n ≤ maxLen := by
 rcases Go.Deep.open_slice Tryd.underlying24 h with ⟨hcs, _⟩ | ⟨a, len, cap', m, k, D, Pl, hcs, _, hl, hm, _⟩
 ·subst hcs
  obtain ⟨l, h1⟩ := ens_of_slice (da := none) (n := 0) (cap := 0) h
  exact ⟨none, 0, 0, l, rfl, h1, by unfold maxLen; omega⟩
 ·subst hcs
  obtain ⟨l, h1⟩ := ens_of_slice (da := some a) (n := len) (cap := cap') h
  exact ⟨some a, len, cap', l, rfl, h1, by omega⟩
theorem eight_cells {l : List Value} {a b c d e f g k : Value} (hl : l.length = 8) (e0 : (l.drop 0).take 1 = [a]) (e1 : (l.drop 1).take 1 = [b]) (e2 : (l.drop 2).take 1 = [c]) (e3 : (l.drop 3).take 1 = [d]) (e4 : (l.drop 4).take 1 = [e]) (e5 : (l.drop 5).take 1 = [f]) (e6 : (l.drop 6).take 1 = [g]) (e7 : (l.drop 7).take 1 = [k]) : l = [a, b, c, d, e, f, g, k] := by
 match l, hl with
 | [x0, x1, x2, x3, x4, x5, x6, x7], _ => simp at e0 e1 e2 e3 e4 e5 e6 e7; rw [e0, e1, e2, e3, e4, e5, e6, e7]
theorem okWide_rc {w : World} {r : Reach} {base : Nat} {v : Value} (h : Value.okWide Tryd.prog w r base 26 v) : ∃ cs, v = .agg cs := by
 simp only [Value.okWide, Tryd.underlying26] at h
 obtain ⟨cs, h1, _⟩ := h
 exact ⟨cs, h1⟩
theorem rcArg_of {H : Type} {enc : TypeId × Value → H} {W : World} {fuel : Nat} {held : Bool} {cs : Array Value} {x : DataW H × List MemPlace}
 (h : DataW.trod enc Tryd.prog W 0 (fun _ => true) held fuel 26 (Value.agg cs).cells.toList = some x) : ∃ y : Rc, cs = y.L.toArray ∧ RcAt y W := by
 have c1 : Tryd.prog.cellsOf 9 = 1 := by kernel_rfl
 have c2 : Tryd.prog.cellsOf 2 = 1 := by kernel_rfl
 have c3 : Tryd.prog.cellsOf 22 = 1 := by kernel_rfl
 have c4 : Tryd.prog.cellsOf 23 = 1 := by kernel_rfl
 have c5 : Tryd.prog.cellsOf 24 = 1 := by kernel_rfl
 have c8 : Tryd.prog.cellsOf 26 = 8 := by kernel_rfl
 generalize hl0 : (Value.agg cs).cells.toList = l at h
 obtain ⟨xs, m, _, hxx, hl, hx, hall⟩ := DataW.trod_struct Tryd.underlying26 h
 rw [c8] at hl
 have h0 := hall 0 _ rfl
 have h1 := hall 1 _ rfl
 have h2 := hall 2 _ rfl
 have h3 := hall 3 _ rfl
 have h4 := hall 4 _ rfl
 have h5 := hall 5 _ rfl
 have h6 := hall 6 _ rfl
 have h7 := hall 7 _ rfl
 have k : xs.length = 8 := hx
 rw [List.getElem?_eq_getElem (by omega)] at h0 h1 h2 h3 h4 h5 h6 h7
 have g0 : DataW.trod enc Tryd.prog W 0 (fun _ => true) held m 9 ((l.drop 0).take (Tryd.prog.cellsOf 9)) = some (xs[0]'(by omega)) := h0
 rw [c1] at g0
 have g1 : DataW.trod enc Tryd.prog W 0 (fun _ => true) held m 9 ((l.drop 1).take (Tryd.prog.cellsOf 9)) = some (xs[1]'(by omega)) := h1
 rw [c1] at g1
 have g2 : DataW.trod enc Tryd.prog W 0 (fun _ => true) held m 9 ((l.drop 2).take (Tryd.prog.cellsOf 9)) = some (xs[2]'(by omega)) := h2
 rw [c1] at g2
 have g3 : DataW.trod enc Tryd.prog W 0 (fun _ => true) held m 2 ((l.drop 3).take (Tryd.prog.cellsOf 2)) = some (xs[3]'(by omega)) := h3
 rw [c2] at g3
 have g4 : DataW.trod enc Tryd.prog W 0 (fun _ => true) held m 22 ((l.drop 4).take (Tryd.prog.cellsOf 22)) = some (xs[4]'(by omega)) := h4
 rw [c3] at g4
 have g5 : DataW.trod enc Tryd.prog W 0 (fun _ => true) held m 23 ((l.drop 5).take (Tryd.prog.cellsOf 23)) = some (xs[5]'(by omega)) := h5
 rw [c4] at g5
 have g6 : DataW.trod enc Tryd.prog W 0 (fun _ => true) held m 24 ((l.drop 6).take (Tryd.prog.cellsOf 24)) = some (xs[6]'(by omega)) := h6
 rw [c5] at g6
 have g7 : DataW.trod enc Tryd.prog W 0 (fun _ => true) held m 24 ((l.drop 7).take (Tryd.prog.cellsOf 24)) = some (xs[7]'(by omega)) := h7
 rw [c5] at g7
 obtain ⟨s0, e0, _, z0⟩ := DataW.trod_string Tryd.underlying9 g0
 obtain ⟨s1, e1, _, z1⟩ := DataW.trod_string Tryd.underlying9 g1
 obtain ⟨s2, e2, _, z2⟩ := DataW.trod_string Tryd.underlying9 g2
 obtain ⟨t, e3, _, z3⟩ := DataW.trod_int Tryd.underlying2 g3
 obtain ⟨q1, qn, qc, q, e4, hq, hqn, hqs⟩ := strs_cells g4
 obtain ⟨v1, vn, vc, v, e5, hv, hvn, hvs⟩ := vrs_cells g5
 obtain ⟨m1, mn, mc, ml, e6, hm, hmn⟩ := ens_cells g6
 obtain ⟨p1, pn, pc, pl, e7, hp, hpn⟩ := ens_cells g7
 have e := eight_cells hl e0 e1 e2 e3 e4 e5 e6 e7
 refine ⟨⟨s0, s1, s2, t, q1, qn, qc, q, v1, vn, vc, v, m1, mn, mc, ml, p1, pn, pc, pl⟩, ?_, hq, hv, hm, hp, ⟨z0, z1, z2, hqn, hvn, hmn, hpn⟩, ⟨hqs, hvs⟩, bounds_i64 z3⟩
 unfold Rc.L
 rw [← e, ← hl0]; simp [Value.cells]
end Go.Proofs.YtecllfbadciaoaaDoor
