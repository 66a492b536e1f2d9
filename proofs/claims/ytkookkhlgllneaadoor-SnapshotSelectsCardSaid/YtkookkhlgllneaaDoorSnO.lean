/-
  Slices of entries and of changes in an argument, opened.
-/
import Derived.Test.YtkookkhlgllneaaDoorGb
import Derived.Deep.Slices
import Derived.WalkKit
import Derived.ProofKit
import Derived.OpenShut
import Derived.ShutString
import Derived.ChangeOld
import Derived.Below
namespace Go.Proofs.YtkookkhlgllneaaDoor
open Go.ChangeShapes Go.WideShapes Go.ChangeAt Go.RowKit

theorem digest_cellsD {H : Type} {enc : TypeId × Value → H} {W : World} {base fuel : Nat} {spare : Nat → Bool} {held : Bool} {cs : List Value} {x : DataW H × List MemPlace}
    (h : DataW.trod enc Tryd.prog W base spare held fuel 28 cs = some x) : ∃ L : List Int, cs = L.map (Value.int .u8) ∧ D32 L := by
  have c5 : Tryd.prog.cellsOf 5 = 1 := by kernel_rfl
  have c25 : Tryd.prog.cellsOf 28 = 32 := by kernel_rfl
  obtain ⟨xs, m, _, _, hl, hx, hall⟩ := DataW.trod_array Tryd.underlying28 h
  rw [c25] at hl
  rw [c5] at hall
  have each : ∀ i, (hi : i < cs.length) → cs[i] = .int .u8 (intOf cs[i]) ∧ 0 ≤ intOf cs[i] ∧ intOf cs[i] < 256 := by
    intro i hi
    have h1 := hall i (by omega)
    rw [List.getElem?_eq_getElem (by omega)] at h1
    have e1 : (cs.drop (i * 1)).take 1 = [cs[i]] := by
      rw [Nat.mul_one, List.drop_eq_getElem_cons hi, List.take_succ_cons, List.take_zero]
    rw [e1] at h1
    obtain ⟨n, e0, _, wn⟩ := DataW.trod_int Tryd.underlying5 h1
    have hn := bounds_u8 wn
    have e2 : cs[i] = .int .u8 n := by simpa using e0
    rw [e2]
    exact ⟨rfl, by simpa [intOf] using hn.1, by simp [intOf]; omega⟩
  refine ⟨cs.map intOf, ?_, by simp [hl], fun y hy => ?_⟩
  · apply List.ext_getElem
    · simp
    · intro i h1 h2
      simp only [List.getElem_map]
      exact (each i h1).1
  · obtain ⟨v, hv, rfl⟩ := List.mem_map.1 hy
    obtain ⟨i, hi, rfl⟩ := List.getElem_of_mem hv
    exact (each i hi).2

theorem change_cells {H : Type} {enc : TypeId × Value → H} {W : World} {base fuel : Nat} {spare : Nat → Bool} {held : Bool} {cs : List Value} {x : DataW H × List MemPlace}
    (h : DataW.trod enc Tryd.prog W base spare held fuel 81 cs = some x) : ∃ y : Cg, cs = cgL y ∧ OkC y := by
  have c1 : Tryd.prog.cellsOf 9 = 1 := by kernel_rfl
  have c32 : Tryd.prog.cellsOf 28 = 32 := by kernel_rfl
  have c65 : Tryd.prog.cellsOf 81 = 65 := by kernel_rfl
  obtain ⟨xs, m, _, _, hl, hx, hall⟩ := DataW.trod_struct Tryd.underlying81 h
  rw [c65] at hl
  have h0 := hall 0 _ rfl
  have h1 := hall 1 _ rfl
  have h2 := hall 2 _ rfl
  simp only [List.getElem?_toArray, List.size_toArray, List.length_cons, List.length_nil] at hx h0 h1 h2
  have k : xs.length = 3 := hx
  rw [List.getElem?_eq_getElem (by omega)] at h0 h1 h2
  have h0' : DataW.trod enc Tryd.prog W base spare held m 9 ((cs.drop 0).take 1) = some xs[0] := by rw [← c1]; exact h0
  have h1' : DataW.trod enc Tryd.prog W base spare held m 28 ((cs.drop 1).take 32) = some xs[1] := by rw [← c32]; exact h1
  have h2' : DataW.trod enc Tryd.prog W base spare held m 28 ((cs.drop 33).take 32) = some xs[2] := by rw [← c32]; exact h2
  obtain ⟨s, e0, _, _⟩ := DataW.trod_string Tryd.underlying9 h0'
  obtain ⟨L1, e1, k1⟩ := digest_cellsD h1'
  obtain ⟨L2, e2, k2⟩ := digest_cellsD h2'
  refine ⟨⟨s, L1, L2⟩, ?_, k1, k2⟩
  show cs = .string s :: (L1.map (Value.int .u8) ++ L2.map (Value.int .u8))
  rw [← e1, ← e2]
  have a1 : cs = cs.take 1 ++ cs.drop 1 := (List.take_append_drop 1 cs).symm
  have a2 : cs.drop 1 = (cs.drop 1).take 32 ++ cs.drop 33 := by
    have := (List.take_append_drop 32 (cs.drop 1)).symm
    rw [List.drop_drop] at this
    exact this
  have a3 : (cs.drop 33).take 32 = cs.drop 33 := List.take_of_length_le (by rw [List.length_drop]; omega)
  rw [a3, ← a2]
  have e0' : cs.take 1 = [.string s] := by rw [List.drop_zero] at e0; exact e0
  rw [e0'] at a1
  exact a1

theorem entry_cells {H : Type} {enc : TypeId × Value → H} {W : World} {base fuel : Nat} {spare : Nat → Bool} {held : Bool} {cs : List Value} {x : DataW H × List MemPlace}
    (h : DataW.trod enc Tryd.prog W base spare held fuel 70 cs = some x) : ∃ y : En, cs = enL y ∧ OkE y := by
  have c1 : Tryd.prog.cellsOf 9 = 1 := by kernel_rfl
  have c32 : Tryd.prog.cellsOf 28 = 32 := by kernel_rfl
  have c33 : Tryd.prog.cellsOf 70 = 33 := by kernel_rfl
  obtain ⟨xs, m, _, _, hl, hx, hall⟩ := DataW.trod_struct Tryd.underlying70 h
  rw [c33] at hl
  have h0 := hall 0 _ rfl
  have h1 := hall 1 _ rfl
  have k : xs.length = 2 := hx
  rw [List.getElem?_eq_getElem (by omega)] at h0 h1
  have h0' : DataW.trod enc Tryd.prog W base spare held m 9 ((cs.drop 0).take 1) = some xs[0] := by rw [← c1]; exact h0
  have h1' : DataW.trod enc Tryd.prog W base spare held m 28 ((cs.drop 1).take 32) = some xs[1] := by rw [← c32]; exact h1
  obtain ⟨s, e0, _, _⟩ := DataW.trod_string Tryd.underlying9 h0'
  obtain ⟨L1, e1, k1⟩ := digest_cellsD h1'
  refine ⟨⟨s, L1⟩, ?_, k1⟩
  show cs = .string s :: L1.map (Value.int .u8)
  rw [← e1]
  have a1 : cs = cs.take 1 ++ cs.drop 1 := (List.take_append_drop 1 cs).symm
  have a3 : (cs.drop 1).take 32 = cs.drop 1 := List.take_of_length_le (by rw [List.length_drop]; omega)
  rw [a3]
  have e0' : cs.take 1 = [.string s] := by rw [List.drop_zero] at e0; exact e0
  rw [e0'] at a1
  exact a1

instance : Inhabited Cg := ⟨⟨ByteArray.empty, [], []⟩⟩
instance : Inhabited En := ⟨⟨ByteArray.empty, []⟩⟩

theorem cgs_of_slice {H : Type} {enc : TypeId × Value → H} {W : World} {fuel : Nat} {held : Bool} {da : Option Addr} {n cap : Nat} {x : DataW H × List MemPlace}
    (h : DataW.trod enc Tryd.prog W 0 (fun _ => true) held fuel 40 (Value.slice da n cap).cells.toList = some x) : ∃ l, CgsIn W W.heap.size da n cap l := by
  have c65 : Tryd.prog.cellsOf 81 = 65 := by kernel_rfl
  rcases Go.Deep.open_slice Tryd.underlying40 h with ⟨hcs, _⟩ | ⟨a, len, cap', m, k, D, Pl, hcs, _, hl, hm, hmm, _, hr⟩
  · simp [Value.cells] at hcs
    obtain ⟨rfl, rfl, rfl⟩ := hcs
    exact ⟨[], ⟨rfl, fun y hy => (by cases hy), fun h => absurd h (by omega)⟩⟩
  · simp [Value.cells] at hcs
    obtain ⟨rfl, rfl, rfl⟩ := hcs
    simp only [if_true] at hmm
    subst hmm
    unfold maxLen at hm
    rw [c65] at hr
    have each : ∀ i, i < m → ∃ y : Cg, OkC y ∧ ∀ j, j < 65 → W.cell? ((a.add (i * 65)).add j) = (cgL y)[j]? := by
      intro i hi
      obtain ⟨cs', h1, h2⟩ := hr i hi
      obtain ⟨y, rfl, hy⟩ := change_cells h2
      obtain ⟨_, _, hc⟩ := World.cells?_some h1
      exact ⟨y, hy, fun j hj => hc j (by omega)⟩
    obtain ⟨f, hf⟩ := Go.Deep.choose_lt each
    refine ⟨(List.range n).map f, ⟨by simp, fun y hy => ?_, fun hn => ?_⟩⟩
    · obtain ⟨i, hi, rfl⟩ := List.mem_map.1 hy
      exact (hf i (by have : i < n := by simpa using hi
                      omega)).1
    · obtain ⟨b, off, spot⟩ := a
      have h0 := (hf 0 (by omega)).2 0 (by omega)
      have hspot : spot = none := by simpa [Addr.add] using World.cell?_spot (h0.trans (by rfl))
      subst hspot
      refine ⟨b, off, rfl, World.block_lt_of_cell? W _ (by simpa [Addr.add, cgL] using h0), hl, fun i y hy j v hv => ?_⟩
      have hi : i < n := by have := (List.getElem?_eq_some_iff.1 hy).1; simpa using this
      have e : y = f i := by rw [List.getElem?_map, List.getElem?_range hi] at hy; exact (Option.some.inj hy).symm
      subst e
      have h1 := hf i (by omega)
      have hj : j < 65 := by have := (List.getElem?_eq_some_iff.1 hv).1; rw [cgL_length h1.1] at this; exact this
      have h2 := h1.2 j hj
      rw [Addr.add_mid, Addr.add_mid] at h2
      rw [h2]; exact hv

theorem ens_of_slice {H : Type} {enc : TypeId × Value → H} {W : World} {fuel : Nat} {held : Bool} {da : Option Addr} {n cap : Nat} {x : DataW H × List MemPlace}
    (h : DataW.trod enc Tryd.prog W 0 (fun _ => true) held fuel 22 (Value.slice da n cap).cells.toList = some x) : ∃ l, EnsIn W W.heap.size da n cap l := by
  have c33 : Tryd.prog.cellsOf 70 = 33 := by kernel_rfl
  rcases Go.Deep.open_slice Tryd.underlying22 h with ⟨hcs, _⟩ | ⟨a, len, cap', m, k, D, Pl, hcs, _, hl, hm, hmm, _, hr⟩
  · simp [Value.cells] at hcs
    obtain ⟨rfl, rfl, rfl⟩ := hcs
    exact ⟨[], ⟨rfl, fun y hy => (by cases hy), fun h => absurd h (by omega)⟩⟩
  · simp [Value.cells] at hcs
    obtain ⟨rfl, rfl, rfl⟩ := hcs
    simp only [if_true] at hmm
    subst hmm
    unfold maxLen at hm
    rw [c33] at hr
    have each : ∀ i, i < m → ∃ y : En, OkE y ∧ ∀ j, j < 33 → W.cell? ((a.add (i * 33)).add j) = (enL y)[j]? := by
      intro i hi
      obtain ⟨cs', h1, h2⟩ := hr i hi
      obtain ⟨y, rfl, hy⟩ := entry_cells h2
      obtain ⟨_, _, hc⟩ := World.cells?_some h1
      exact ⟨y, hy, fun j hj => hc j (by omega)⟩
    obtain ⟨f, hf⟩ := Go.Deep.choose_lt each
    refine ⟨(List.range n).map f, ⟨by simp, fun y hy => ?_, fun hn => ?_⟩⟩
    · obtain ⟨i, hi, rfl⟩ := List.mem_map.1 hy
      exact (hf i (by have : i < n := by simpa using hi
                      omega)).1
    · obtain ⟨b, off, spot⟩ := a
      have h0 := (hf 0 (by omega)).2 0 (by omega)
      have hspot : spot = none := by simpa [Addr.add] using World.cell?_spot (h0.trans (by rfl))
      subst hspot
      refine ⟨b, off, rfl, World.block_lt_of_cell? W _ (by simpa [Addr.add, enL] using h0), hl, fun i y hy j v hv => ?_⟩
      have hi : i < n := by have := (List.getElem?_eq_some_iff.1 hy).1; simpa using this
      have e : y = f i := by rw [List.getElem?_map, List.getElem?_range hi] at hy; exact (Option.some.inj hy).symm
      subst e
      have h1 := hf i (by omega)
      have hj : j < 33 := by have := (List.getElem?_eq_some_iff.1 hv).1; rw [enL_length h1.1] at this; exact this
      have h2 := h1.2 j hj
      rw [Addr.add_mid, Addr.add_mid] at h2
      rw [h2]; exact hv
end Go.Proofs.YtkookkhlgllneaaDoor
