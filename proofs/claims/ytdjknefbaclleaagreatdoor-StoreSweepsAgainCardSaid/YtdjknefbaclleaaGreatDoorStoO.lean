/-
  Slices of blobs and slices of slices of numbers in an argument, opened.
-/
import Derived.Test.YtdjknefbaclleaaGreatDoorGg
import Derived.Deep.Slices
import Derived.SliceStrings
import Derived.WalkKit
import Derived.ProofKit
import Derived.OpenShut
import Derived.ShutString
import Derived.ChangeOld
import Derived.Below
namespace Go.Proofs.YtdjknefbaclleaaGreatDoor
open Go.ChangeShapes Go.WideShapes Go.ChangeAt Go.RowKit

theorem digest_cellsG {H : Type} {enc : TypeId × Value → H} {W : World} {base fuel : Nat} {spare : Nat → Bool} {held : Bool} {cs : List Value} {x : DataW H × List MemPlace}
    (h : DataW.trod enc Tryz.prog W base spare held fuel 29 cs = some x) : ∃ L : List Int, cs = L.map (Value.int .u8) ∧ D32 L := by
  have c5 : Tryz.prog.cellsOf 5 = 1 := by kernel_rfl
  have c25 : Tryz.prog.cellsOf 29 = 32 := by kernel_rfl
  obtain ⟨xs, m, _, _, hl, hx, hall⟩ := DataW.trod_array Tryz.underlying29 h
  rw [c25] at hl
  rw [c5] at hall
  have each : ∀ i, (hi : i < cs.length) → cs[i] = .int .u8 (intOf cs[i]) ∧ 0 ≤ intOf cs[i] ∧ intOf cs[i] < 256 := by
    intro i hi
    have h1 := hall i (by omega)
    rw [List.getElem?_eq_getElem (by omega)] at h1
    have e1 : (cs.drop (i * 1)).take 1 = [cs[i]] := by
      rw [Nat.mul_one, List.drop_eq_getElem_cons hi, List.take_succ_cons, List.take_zero]
    rw [e1] at h1
    obtain ⟨n, e0, _, wn⟩ := DataW.trod_int Tryz.underlying5 h1
    have hn := bounds_u8 wn
    have e2 : cs[i] = .int .u8 n := by simpa using e0
    rw [e2]
    exact ⟨rfl, by simpa [intOf] using hn.1, by simp [intOf]; omega⟩
  refine ⟨cs.map intOf, ?_, by simp [hl], fun y hy => ?_⟩
  · apply List.ext_getElem
    · simp
    · intro i h1 h2
      simp only [List.getElem_map]
      exact (each i h1).1
  · obtain ⟨v, hv, rfl⟩ := List.mem_map.1 hy
    obtain ⟨i, hi, rfl⟩ := List.getElem_of_mem hv
    exact (each i hi).2


theorem src_of_bytesG {H : Type} {enc : TypeId × Value → H} {W : World} {fuel : Nat} {held : Bool} {cs : List Value} {x : DataW H × List MemPlace}
    (h : DataW.trod enc Tryz.prog W 0 (fun _ => true) held fuel 42 cs = some x) : ∃ sp n cap l, cs = [.slice sp n cap] ∧ Src W W.heap.size sp n cap l ∧ (sp = none → cap = 0) := by
  rcases open_ints Tryz.underlying42 Tryz.underlying5 (by kernel_rfl) h with ⟨hcs, _⟩ | ⟨a, len, cap', zs, hcs, _, hl, hm, hzl, _, hc, hz⟩
  · exact ⟨none, 0, 0, [], by simpa using hcs, ⟨rfl, fun y hy => (by cases hy), fun h => absurd h (by omega)⟩, fun _ => rfl⟩
  · simp only [if_true] at hzl
    refine ⟨some a, len, cap', zs.take len, by simpa using hcs, ⟨by rw [List.length_take]; omega, fun y hy => ?_, fun hn => ?_⟩, fun h => by cases h⟩
    · have hb := bounds_u8 (hz y (List.mem_of_mem_take hy))
      omega
    obtain ⟨b, off, spot⟩ := a
    have h0 := hc 0 (by omega)
    have hspot : spot = none := by simpa [Addr.add] using World.cell?_spot h0
    subst hspot
    refine ⟨b, off, rfl, World.block_lt_of_cell? W _ (by simpa [Addr.add] using h0), hl, fun j hj => ?_⟩
    have h1 := hc j (by omega)
    rw [Addr.add_mid] at h1
    rw [h1]
    simp [List.getD_eq_getElem?_getD, hj]
set_option maxRecDepth 100000 in
theorem blob_cells {H : Type} {enc : TypeId × Value → H} {W : World} {fuel : Nat} {held : Bool} {cs : List Value} {x : DataW H × List MemPlace}
    (h : DataW.trod enc Tryz.prog W 0 (fun _ => true) held fuel 50 cs = some x) : ∃ y : Bl, cs = blL y ∧ OkB y ∧ DatIn W W.heap.size y := by
  have c1 : Tryz.prog.cellsOf 42 = 1 := by kernel_rfl
  have c32 : Tryz.prog.cellsOf 29 = 32 := by kernel_rfl
  have c33 : Tryz.prog.cellsOf 50 = 33 := by kernel_rfl
  obtain ⟨xs, m, _, _, hl, hx, hall⟩ := DataW.trod_struct Tryz.underlying50 h
  rw [c33] at hl
  have h0 := hall 0 _ rfl
  have h1 := hall 1 _ rfl
  have k : xs.length = 2 := hx
  rw [List.getElem?_eq_getElem (by omega)] at h0 h1
  have h0' : DataW.trod enc Tryz.prog W 0 (fun _ => true) held m 29 ((cs.drop 0).take (Tryz.prog.cellsOf 29)) = some (xs[0]'(by omega)) := h0
  have h1' : DataW.trod enc Tryz.prog W 0 (fun _ => true) held m 42 ((cs.drop 32).take (Tryz.prog.cellsOf 42)) = some (xs[1]'(by omega)) := h1
  rw [c32] at h0'
  rw [c1] at h1'
  obtain ⟨L1, e1, k1⟩ := digest_cellsG h0'
  obtain ⟨sp, n, cap, l, e2, k2, k3⟩ := src_of_bytesG h1'
  refine ⟨⟨L1, sp, n, cap, l⟩, ?_, k1, ⟨k2, k3⟩⟩
  show cs = L1.map (Value.int .u8) ++ [.slice sp n cap]
  rw [List.drop_zero] at e1
  have a3 : (cs.drop 32).take 1 = cs.drop 32 := List.take_of_length_le (by rw [List.length_drop]; omega)
  rw [a3] at e2
  rw [← e1, ← e2]
  exact (List.take_append_drop 32 cs).symm
instance : Inhabited Bl := ⟨⟨[], none, 0, 0, []⟩⟩
theorem bls_of_slice {H : Type} {enc : TypeId × Value → H} {W : World} {fuel : Nat} {held : Bool} {da : Option Addr} {n cap : Nat} {x : DataW H × List MemPlace}
    (h : DataW.trod enc Tryz.prog W 0 (fun _ => true) held fuel 24 (Value.slice da n cap).cells.toList = some x) : ∃ l, BlsIn W W.heap.size da n cap l := by
  have c33 : Tryz.prog.cellsOf 50 = 33 := by kernel_rfl
  rcases Go.Deep.open_slice Tryz.underlying24 h with ⟨hcs, _⟩ | ⟨a, len, cap', m, k, D, Pl, hcs, _, hl, hm, hmm, _, hr⟩
  · simp [Value.cells] at hcs
    obtain ⟨rfl, rfl, rfl⟩ := hcs
    exact ⟨[], BlsIn.nil _ _⟩
  · simp [Value.cells] at hcs
    obtain ⟨rfl, rfl, rfl⟩ := hcs
    simp only [if_true] at hmm
    subst hmm
    unfold maxLen at hm
    rw [c33] at hr
    have each : ∀ i, i < m → ∃ y : Bl, (OkB y ∧ DatIn W W.heap.size y) ∧ ∀ j, j < 33 → W.cell? ((a.add (i * 33)).add j) = (blL y)[j]? := by
      intro i hi
      obtain ⟨cs', h1, h2⟩ := hr i hi
      obtain ⟨y, rfl, hy⟩ := blob_cells h2
      obtain ⟨_, _, hc⟩ := World.cells?_some h1
      exact ⟨y, hy, fun j hj => hc j (by omega)⟩
    obtain ⟨f, hf⟩ := Go.Deep.choose_lt each
    have mem : ∀ y ∈ (List.range n).map f, OkB y ∧ DatIn W W.heap.size y := by
      intro y hy
      obtain ⟨i, hi, rfl⟩ := List.mem_map.1 hy
      exact (hf i (by have : i < n := by simpa using hi
                      omega)).1
    refine ⟨(List.range n).map f, ⟨by simp, fun y hy => (mem y hy).1, fun y hy => (mem y hy).2, fun hn => ?_⟩⟩
    obtain ⟨b, off, spot⟩ := a
    have h0 := (hf 0 (by omega)).2 0 (by omega)
    have hz : 0 < (blL (f 0)).length := by rw [blL_length (hf 0 (by omega)).1.1]; omega
    have hspot : spot = none := by
      have h0' := h0
      rw [List.getElem?_eq_getElem hz] at h0'
      simpa [Addr.add] using World.cell?_spot h0'
    subst hspot
    refine ⟨b, off, rfl, World.block_lt_of_cell? W _ (by rw [List.getElem?_eq_getElem hz] at h0; simpa [Addr.add] using h0), hl, fun i y hy j v hv => ?_⟩
    have hi : i < n := by have := (List.getElem?_eq_some_iff.1 hy).1; simpa using this
    have e : y = f i := by rw [List.getElem?_map, List.getElem?_range hi] at hy; exact (Option.some.inj hy).symm
    subst e
    have h1 := hf i (by omega)
    have hj : j < 33 := by have := (List.getElem?_eq_some_iff.1 hv).1; rw [blL_length h1.1.1] at this; exact this
    have h2 := h1.2 j hj
    rw [Addr.add_mid, Addr.add_mid] at h2
    rw [h2]; exact hv
/-- a slice of numbers -/
structure NumsIn (w : World) (B : Nat) (sp : Option Addr) (n cap : Nat) (l : List Int) : Prop where
  len : l.length = n
  cells : 0 < n → ∃ b off, sp = some ⟨b, off, none⟩ ∧ b < B ∧ n ≤ cap ∧ ∀ i v, l[i]? = some v → w.cell? ⟨b, off + i, none⟩ = some (.int .i64 v)
  wide : ∀ v ∈ l, -9223372036854775808 ≤ v ∧ v ≤ 9223372036854775807
  short : n ≤ 9223372036854775807
theorem NumsIn.below {w w' : World} {B B' : Nat} {sp : Option Addr} {n cap : Nat} {l : List Int} (h : NumsIn w B sp n cap l) (hb : Below B' w w') (hB : B ≤ B') : NumsIn w' B sp n cap l :=
  ⟨h.len, fun hn => by
    obtain ⟨b, off, e, hlt, hc, hr⟩ := h.cells hn
    exact ⟨b, off, e, hlt, hc, fun i v hi => (hb.cell (p := ⟨b, off + i, none⟩) (by show b < B'; omega)).trans (hr i v hi)⟩, h.wide, h.short⟩
/-- a line of numbers -/
structure Nl where
  sp : Option Addr
  n : Nat
  cap : Nat
  l : List Int
def Nl.val (q : Nl) : Value := .slice q.sp q.n q.cap
structure NlsIn (w : World) (B : Nat) (pa : Option Addr) (np ncap : Nat) (ls : List Nl) : Prop where
  len : ls.length = np
  cells : 0 < np → ∃ pb po, pa = some ⟨pb, po, none⟩ ∧ pb < B ∧ np ≤ ncap ∧ ∀ j q, ls[j]? = some q → w.cell? ⟨pb, po + j, none⟩ = some q.val
  each : ∀ q ∈ ls, NumsIn w B q.sp q.n q.cap q.l
  short : np ≤ 9223372036854775807
theorem NlsIn.below {w w' : World} {B B' : Nat} {pa : Option Addr} {np ncap : Nat} {ls : List Nl} (h : NlsIn w B pa np ncap ls) (hb : Below B' w w') (hB : B ≤ B') : NlsIn w' B pa np ncap ls :=
  ⟨h.len, fun hn => by
    obtain ⟨pb, po, e, hlt, hc, hr⟩ := h.cells hn
    exact ⟨pb, po, e, hlt, hc, fun j q hj => (hb.cell (p := ⟨pb, po + j, none⟩) (by show pb < B'; omega)).trans (hr j q hj)⟩, fun q hq => (h.each q hq).below hb hB, h.short⟩
instance : Inhabited Nl := ⟨⟨none, 0, 0, []⟩⟩
theorem nums_of_cells {H : Type} {enc : TypeId × Value → H} {W : World} {fuel : Nat} {held : Bool} {cs : List Value} {x : DataW H × List MemPlace}
    (h : DataW.trod enc Tryz.prog W 0 (fun _ => true) held fuel 23 cs = some x) : ∃ sp n cap l, cs = [.slice sp n cap] ∧ NumsIn W W.heap.size sp n cap l := by
  rcases open_ints Tryz.underlying23 Tryz.underlying3 (by kernel_rfl) h with ⟨hcs, _⟩ | ⟨a, len, cap', zs, hcs, _, hl, hm, hzl, _, hc, hz⟩
  · exact ⟨none, 0, 0, [], by simpa using hcs, ⟨rfl, fun h => absurd h (by omega), fun y hy => (by cases hy), by omega⟩⟩
  · simp only [if_true] at hzl
    unfold maxLen at hm
    refine ⟨some a, len, cap', zs.take len, by simpa using hcs, ⟨by rw [List.length_take]; omega, fun hn => ?_, fun y hy => bounds_i64 (hz y (List.mem_of_mem_take hy)), by omega⟩⟩
    obtain ⟨b, off, spot⟩ := a
    have h0 := hc 0 (by omega)
    have hspot : spot = none := by simpa [Addr.add] using World.cell?_spot h0
    subst hspot
    refine ⟨b, off, rfl, World.block_lt_of_cell? W _ (by simpa [Addr.add] using h0), hl, fun i v hv => ?_⟩
    have hi : i < len := by have := (List.getElem?_eq_some_iff.1 hv).1; rw [List.length_take] at this; omega
    have h1 := hc i (by omega)
    rw [Addr.add_mid] at h1
    rw [h1]
    rw [List.getElem?_take, if_pos hi] at hv
    rw [List.getD_eq_getElem?_getD, hv]; rfl
theorem nls_of_slice {H : Type} {enc : TypeId × Value → H} {W : World} {fuel : Nat} {held : Bool} {pa : Option Addr} {np ncap : Nat} {x : DataW H × List MemPlace}
    (h : DataW.trod enc Tryz.prog W 0 (fun _ => true) held fuel 22 (Value.slice pa np ncap).cells.toList = some x) : ∃ ls, NlsIn W W.heap.size pa np ncap ls := by
  have c2 : Tryz.prog.cellsOf 23 = 1 := by kernel_rfl
  rcases Go.Deep.open_slice1 Tryz.underlying22 c2 h with ⟨hcs, _⟩ | ⟨a, len, cap', m, k, V, D, Pl, hcs, _, hl, hm, hmm, _, hr⟩
  · simp [Value.cells] at hcs
    obtain ⟨rfl, rfl, rfl⟩ := hcs
    exact ⟨[], ⟨rfl, fun h => absurd h (by omega), fun q hq => (by cases hq), by omega⟩⟩
  · simp [Value.cells] at hcs
    obtain ⟨rfl, rfl, rfl⟩ := hcs
    simp only [if_true] at hmm
    subst hmm
    unfold maxLen at hm
    have each : ∀ i, i < m → ∃ q : Nl, V i = q.val ∧ NumsIn W W.heap.size q.sp q.n q.cap q.l := by
      intro i hi
      obtain ⟨sp, n, cap, l, e, hn⟩ := nums_of_cells (hr i hi).2
      exact ⟨⟨sp, n, cap, l⟩, (List.cons.inj e).1, hn⟩
    obtain ⟨f, hf⟩ := Go.Deep.choose_lt each
    refine ⟨(List.range np).map f, ⟨by simp, fun hn => ?_, fun q hq => ?_, by omega⟩⟩
    · obtain ⟨b, off, spot⟩ := a
      have h0 := (hr 0 (by omega)).1
      have hspot : spot = none := by simpa [Addr.add] using World.cell?_spot h0
      subst hspot
      refine ⟨b, off, rfl, World.block_lt_of_cell? W _ (by simpa [Addr.add] using h0), hl, fun j q hj => ?_⟩
      have hj' : j < np := by have := (List.getElem?_eq_some_iff.1 hj).1; simpa using this
      have e : q = f j := by rw [List.getElem?_map, List.getElem?_range hj'] at hj; exact (Option.some.inj hj).symm
      subst e
      have := (hr j (by omega)).1
      rw [Addr.add_mid] at this
      rw [this, (hf j (by omega)).1]
    · obtain ⟨i, hi, rfl⟩ := List.mem_map.1 hq
      have hi' : i < np := by simpa using hi
      exact (hf i (by omega)).2
end Go.Proofs.YtdjknefbaclleaaGreatDoor
