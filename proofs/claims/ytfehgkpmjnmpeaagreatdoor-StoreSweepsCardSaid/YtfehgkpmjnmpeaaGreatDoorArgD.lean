/-
  Slices of blobs and of digests as arguments, with how long they can be.
-/
import Derived.Test.YtfehgkpmjnmpeaaGreatDoorRows
import Derived.Test.YtfehgkpmjnmpeaaGreatDoorStoO
import Derived.Test.YtfehgkpmjnmpeaaGreatDoorGf
namespace Go.Proofs.YtfehgkpmjnmpeaaGreatDoor
open Go.ChangeShapes Go.WideShapes Go.ChangeAt Go.RowKit

theorem src_wide {H : Type} {enc : TypeId × Value → H} {W : World} {fuel : Nat} {held : Bool} {cs : List Value} {x : DataW H × List MemPlace}
    (h : DataW.trod enc Tryz.prog W 0 (fun _ => true) held fuel 36 cs = some x) : ∃ sp n cap l, cs = [.slice sp n cap] ∧ Src W W.heap.size sp n cap l ∧ (sp = none → cap = 0) ∧ n ≤ 9223372036854775807 := by
  obtain ⟨sp, n, cap, l, hcs, hs, hn⟩ := src_of_bytesG h
  refine ⟨sp, n, cap, l, hcs, hs, hn, ?_⟩
  rcases open_ints Tryz.underlying36 Tryz.underlying5 (by kernel_rfl) h with ⟨h1, _⟩ | ⟨a, len, cap', zs, h1, _, hl, hm, hzl, hx, _, _⟩
  · rw [hcs] at h1; injection h1 with h1; injection h1 with _ h1; omega
  · rw [hcs] at h1; injection h1 with h1; injection h1 with _ h1 _
    unfold maxLen at hm
    omega
set_option maxRecDepth 100000 in
theorem blob_wide {H : Type} {enc : TypeId × Value → H} {W : World} {fuel : Nat} {held : Bool} {cs : List Value} {x : DataW H × List MemPlace}
    (h : DataW.trod enc Tryz.prog W 0 (fun _ => true) held fuel 51 cs = some x) : ∃ y : Bl, cs = blL y ∧ OkB y ∧ DatIn W W.heap.size y ∧ y.n ≤ 9223372036854775807 := by
  have c1 : Tryz.prog.cellsOf 36 = 1 := by kernel_rfl
  have c32 : Tryz.prog.cellsOf 32 = 32 := by kernel_rfl
  have c33 : Tryz.prog.cellsOf 51 = 33 := by kernel_rfl
  obtain ⟨xs, m, _, hxx, hl, hx, hall⟩ := DataW.trod_struct Tryz.underlying51 h
  rw [c33] at hl
  have h0 := hall 0 _ rfl
  have h1 := hall 1 _ rfl
  have k : xs.length = 2 := hx
  rw [List.getElem?_eq_getElem (by omega)] at h0 h1
  have h0' : DataW.trod enc Tryz.prog W 0 (fun _ => true) held m 32 ((cs.drop 0).take (Tryz.prog.cellsOf 32)) = some (xs[0]'(by omega)) := h0
  have h1' : DataW.trod enc Tryz.prog W 0 (fun _ => true) held m 36 ((cs.drop 32).take (Tryz.prog.cellsOf 36)) = some (xs[1]'(by omega)) := h1
  rw [c32] at h0'
  rw [c1] at h1'
  obtain ⟨L1, e1, k1⟩ := digest_cellsG h0'
  obtain ⟨sp, n, cap, l, e2, k2, k3, k4⟩ := src_wide h1'
  refine ⟨⟨L1, sp, n, cap, l⟩, ?_, k1, ⟨k2, k3⟩, ?_⟩
  · show cs = L1.map (Value.int .u8) ++ [.slice sp n cap]
    rw [List.drop_zero] at e1
    have a3 : (cs.drop 32).take 1 = cs.drop 32 := List.take_of_length_le (by rw [List.length_drop]; omega)
    rw [a3] at e2
    rw [← e1, ← e2]
    exact (List.take_append_drop 32 cs).symm
  · exact k4
theorem bls_wide {H : Type} {enc : TypeId × Value → H} {W : World} {fuel : Nat} {held : Bool} {da : Option Addr} {n cap : Nat} {x : DataW H × List MemPlace}
    (h : DataW.trod enc Tryz.prog W 0 (fun _ => true) held fuel 22 (Value.slice da n cap).cells.toList = some x) : ∃ l, BlsIn W W.heap.size da n cap l ∧ n ≤ 9223372036854775807 ∧ ∀ y ∈ l, y.n ≤ 9223372036854775807 := by
  have c33 : Tryz.prog.cellsOf 51 = 33 := by kernel_rfl
  rcases Go.Deep.open_slice Tryz.underlying22 h with ⟨hcs, _⟩ | ⟨a, len, cap', m, k, D, Pl, hcs, _, hl, hm, hmm, hxe, hr⟩
  · simp [Value.cells] at hcs
    obtain ⟨rfl, rfl, rfl⟩ := hcs
    exact ⟨[], BlsIn.nil _ _, Nat.zero_le _, fun y hy => by cases hy⟩
  · simp [Value.cells] at hcs
    obtain ⟨rfl, rfl, rfl⟩ := hcs
    simp only [if_true] at hmm
    subst hmm
    unfold maxLen at hm
    rw [c33] at hr
    have each : ∀ i, i < m → ∃ y : Bl, (OkB y ∧ DatIn W W.heap.size y ∧ y.n ≤ 9223372036854775807) ∧ ∀ j, j < 33 → W.cell? ((a.add (i * 33)).add j) = (blL y)[j]? := by
      intro i hi
      obtain ⟨cs', h1, h2⟩ := hr i hi
      obtain ⟨y, rfl, hy1, hy2, hy3⟩ := blob_wide h2
      obtain ⟨_, _, hc⟩ := World.cells?_some h1
      exact ⟨y, ⟨hy1, hy2, hy3⟩, fun j hj => hc j (by omega)⟩
    obtain ⟨f, hf⟩ := Go.Deep.choose_lt each
    have mem : ∀ y ∈ (List.range n).map f, OkB y ∧ DatIn W W.heap.size y := by
      intro y hy
      obtain ⟨i, hi, rfl⟩ := List.mem_map.1 hy
      have := (hf i (by have : i < n := by simpa using hi
                        omega)).1
      exact ⟨this.1, this.2.1⟩
    refine ⟨(List.range n).map f, ⟨by simp, fun y hy => (mem y hy).1, fun y hy => (mem y hy).2, fun hn => ?_⟩, ?_, ?_⟩
    · obtain ⟨b, off, spot⟩ := a
      have h0 := (hf 0 (by omega)).2 0 (by omega)
      have hz : 0 < (blL (f 0)).length := by rw [blL_length (hf 0 (by omega)).1.1]; omega
      have hspot : spot = none := by
        have h0' := h0
        rw [List.getElem?_eq_getElem hz] at h0'
        simpa [Addr.add] using World.cell?_spot h0'
      subst hspot
      refine ⟨b, off, rfl, World.block_lt_of_cell? W _ (by rw [List.getElem?_eq_getElem hz] at h0; simpa [Addr.add] using h0), hl, fun i y hy j v hv => ?_⟩
      have hi : i < n := by have := (List.getElem?_eq_some_iff.1 hy).1; simpa using this
      have e : y = f i := by rw [List.getElem?_map, List.getElem?_range hi] at hy; exact (Option.some.inj hy).symm
      subst e
      have h1 := hf i (by omega)
      have hj : j < 33 := by have := (List.getElem?_eq_some_iff.1 hv).1; rw [blL_length h1.1.1] at this; exact this
      have h2 := h1.2 j hj
      rw [Addr.add_mid, Addr.add_mid] at h2
      rw [h2]; exact hv
    · omega
    · intro y hy
      obtain ⟨i, hi, rfl⟩ := List.mem_map.1 hy
      have hi' : i < n := by simpa using hi
      exact (hf i (by omega)).1.2.2
instance : Inhabited (List Int) := ⟨[]⟩
theorem dgs_of_slice {H : Type} {enc : TypeId × Value → H} {W : World} {fuel : Nat} {held : Bool} {da : Option Addr} {n cap : Nat} {x : DataW H × List MemPlace}
    (h : DataW.trod enc Tryz.prog W 0 (fun _ => true) held fuel 23 (Value.slice da n cap).cells.toList = some x) : ∃ l, DigsIn W W.heap.size da n cap l ∧ (da = none → cap = 0) ∧ n ≤ 9223372036854775807 := by
  have c32 : Tryz.prog.cellsOf 32 = 32 := by kernel_rfl
  rcases Go.Deep.open_slice Tryz.underlying23 h with ⟨hcs, _⟩ | ⟨a, len, cap', m, k, D, Pl, hcs, _, hl, hm, hmm, _, hr⟩
  · simp [Value.cells] at hcs
    obtain ⟨rfl, rfl, rfl⟩ := hcs
    exact ⟨[], ⟨rfl, fun y hy => (by cases hy), fun h => absurd h (by omega)⟩, fun _ => rfl, by omega⟩
  · simp [Value.cells] at hcs
    obtain ⟨rfl, rfl, rfl⟩ := hcs
    simp only [if_true] at hmm
    subst hmm
    unfold maxLen at hm
    rw [c32] at hr
    have each : ∀ i, i < m → ∃ y : List Int, D32 y ∧ ∀ j, j < 32 → W.cell? ((a.add (i * 32)).add j) = (y.map (Value.int .u8))[j]? := by
      intro i hi
      obtain ⟨cs', h1, h2⟩ := hr i hi
      obtain ⟨y, rfl, hy⟩ := digest_cellsG h2
      obtain ⟨_, _, hc⟩ := World.cells?_some h1
      exact ⟨y, hy, fun j hj => hc j (by omega)⟩
    obtain ⟨f, hf⟩ := Go.Deep.choose_lt each
    refine ⟨(List.range n).map f, ⟨by simp, fun y hy => ?_, fun hn => ?_⟩, fun e => (by cases e), by omega⟩
    · obtain ⟨i, hi, rfl⟩ := List.mem_map.1 hy
      exact (hf i (by have : i < n := by simpa using hi
                      omega)).1
    · obtain ⟨b, off, spot⟩ := a
      have h0 := (hf 0 (by omega)).2 0 (by omega)
      have hz : 0 < ((f 0).map (Value.int .u8)).length := by rw [List.length_map, (hf 0 (by omega)).1.1]; omega
      have hspot : spot = none := by
        have h0' := h0
        rw [List.getElem?_eq_getElem hz] at h0'
        simpa [Addr.add] using World.cell?_spot h0'
      subst hspot
      refine ⟨b, off, rfl, World.block_lt_of_cell? W _ (by rw [List.getElem?_eq_getElem hz] at h0; simpa [Addr.add] using h0), hl, fun i hi j v hv => ?_⟩
      have e : ((List.range n).map f).getD i [] = f i := by simp [List.getD_eq_getElem?_getD, hi]
      rw [e] at hv
      have h1 := hf i (by omega)
      have hj : j < 32 := by have := (List.getElem?_eq_some_iff.1 hv).1; rw [List.length_map, h1.1.1] at this; exact this
      have h2 := h1.2 j hj
      rw [Addr.add_mid, Addr.add_mid] at h2
      rw [h2]; exact hv
end Go.Proofs.YtfehgkpmjnmpeaaGreatDoor
