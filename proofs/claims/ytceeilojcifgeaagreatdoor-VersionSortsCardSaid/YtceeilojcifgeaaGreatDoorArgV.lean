/-
  Slices of bytes, of strings and of numbers in an argument, opened.
-/
import Derived.Test.YtceeilojcifgeaaGreatDoorLawVNu
import Derived.Deep.Slices
import Derived.SliceStrings
import Derived.WalkKit
import Derived.ProofKit
import Derived.OpenShut
import Derived.ShutString
import Derived.ChangeOld
import Derived.Below
namespace Go.Proofs.YtceeilojcifgeaaGreatDoor
open Go.ChangeShapes Go.WideShapes Go.ChangeAt Go.RowKit

set_option maxRecDepth 100000 in
theorem byta_of_slice {H : Type} {enc : TypeId × Value → H} {W : World} {fuel : Nat} {held : Bool} {sp : Option Addr} {n cap : Nat} {x : DataW H × List MemPlace}
    (h : DataW.trod enc Tryz.prog W 0 (fun _ => true) held fuel 50 (Value.slice sp n cap).cells.toList = some x) : ∃ l, BytA W sp n cap l := by
  rcases open_ints Tryz.underlying50 Tryz.underlying5 (by kernel_rfl) h with ⟨hcs, _⟩ | ⟨a, len, cap', zs, hcs, _, hl, hm, hzl, _, hc, hz⟩
  · simp [Value.cells] at hcs
    obtain ⟨rfl, rfl, rfl⟩ := hcs
    exact ⟨[], rfl, fun h => absurd h (by omega), by omega⟩
  · simp [Value.cells] at hcs
    obtain ⟨rfl, rfl, rfl⟩ := hcs
    simp only [if_true] at hzl
    unfold maxLen at hm
    refine ⟨(zs.take n).map fun z => UInt8.ofNat z.toNat, by rw [List.length_map, List.length_take]; omega, fun hn => ?_, by omega⟩
    obtain ⟨b, off, spot⟩ := a
    have h0 := hc 0 (by omega)
    have hspot : spot = none := by simpa [Addr.add] using World.cell?_spot h0
    subst hspot
    refine ⟨b, off, rfl, World.block_lt_of_cell? W _ (by simpa [Addr.add] using h0), hl, fun j hj => ?_⟩
    rw [List.length_map, List.length_take] at hj
    have h1 := hc j (by omega)
    rw [Addr.add_mid] at h1
    have hb := bounds_u8 (hz (zs[j]'(by omega)) (List.getElem_mem (by omega)))
    have hg : zs.getD j 0 = zs[j]'(by omega) := by rw [List.getD_eq_getElem?_getD, List.getElem?_eq_getElem (by omega)]; rfl
    rw [h1, hg]
    simp; omega
/-- numbers that came in -/
structure IntA (W : World) (sp : Option Addr) (n cap : Nat) (l : List Int) : Prop where
  len : l.length = n
  cells : 0 < n → ∃ b off, sp = some ⟨b, off, none⟩ ∧ b < W.heap.size ∧ n ≤ cap ∧ ∀ i v, l[i]? = some v → W.cell? ⟨b, off + i, none⟩ = some (.int .i64 v)
  wide : ∀ v ∈ l, -9223372036854775808 ≤ v ∧ v ≤ 9223372036854775807
  short : n ≤ 9223372036854775807
set_option maxRecDepth 100000 in
theorem inta_of_slice {H : Type} {enc : TypeId × Value → H} {W : World} {fuel : Nat} {held : Bool} {da : Option Addr} {n cap : Nat} {x : DataW H × List MemPlace}
    (h : DataW.trod enc Tryz.prog W 0 (fun _ => true) held fuel 23 (Value.slice da n cap).cells.toList = some x) : ∃ l, IntA W da n cap l := by
  have c1 : Tryz.prog.cellsOf 3 = 1 := by kernel_rfl
  rcases Go.Deep.open_slice Tryz.underlying23 h with ⟨hcs, _⟩ | ⟨a, len, cap', m, k, D, Pl, hcs, _, hl, hm, hmm, _, hr⟩
  · simp [Value.cells] at hcs
    obtain ⟨rfl, rfl, rfl⟩ := hcs
    exact ⟨[], ⟨rfl, fun h => absurd h (by omega), by simp, by omega⟩⟩
  · simp [Value.cells] at hcs
    obtain ⟨rfl, rfl, rfl⟩ := hcs
    simp only [if_true] at hmm
    subst hmm
    unfold maxLen at hm
    rw [c1] at hr
    have each : ∀ i, i < m → ∃ v : Int, (-9223372036854775808 ≤ v ∧ v ≤ 9223372036854775807) ∧ W.cell? (a.add (i * 1)) = some (.int .i64 v) := by
      intro i hi
      obtain ⟨cs', h1, h2⟩ := hr i hi
      obtain ⟨v, rfl, _, wn⟩ := DataW.trod_int Tryz.underlying3 h2
      obtain ⟨_, _, hc⟩ := World.cells?_some h1
      have h3 := hc 0 (by omega)
      have h4 : (a.add (i * 1)).add 0 = a.add (i * 1) := by
        cases a with
        | mk b o s => cases s <;> simp [Addr.add]
      rw [h4] at h3
      exact ⟨v, bounds_i64 wn, h3⟩
    obtain ⟨f, hf⟩ := Go.Deep.choose_lt each
    refine ⟨(List.range n).map f, ⟨by simp, fun hn => ?_, fun y hy => ?_, by omega⟩⟩
    · obtain ⟨b, off, spot⟩ := a
      have h0 := (hf 0 (by omega)).2
      have hspot : spot = none := by simpa [Addr.add] using World.cell?_spot h0
      subst hspot
      refine ⟨b, off, rfl, World.block_lt_of_cell? W _ (by simpa [Addr.add] using h0), hl, fun i v hv => ?_⟩
      have hi : i < n := by have := (List.getElem?_eq_some_iff.1 hv).1; simpa using this
      have e : v = f i := by rw [List.getElem?_map, List.getElem?_range hi] at hv; exact (Option.some.inj hv).symm
      subst e
      have h2 := (hf i (by omega)).2
      rw [Addr.add_mid, Nat.mul_one] at h2
      exact h2
    · obtain ⟨i, hi, rfl⟩ := List.mem_map.1 hy
      exact (hf i (by have : i < n := by simpa using hi
                      omega)).1
/-- strings that came in -/
structure StrA (W : World) (sp : Option Addr) (n cap : Nat) (l : List ByteArray) : Prop where
  len : l.length = n
  cells : 0 < n → ∃ b off, sp = some ⟨b, off, none⟩ ∧ b < W.heap.size ∧ n ≤ cap ∧ ∀ i v, l[i]? = some v → W.cell? ⟨b, off + i, none⟩ = some (.string v)
  wide : ∀ v ∈ l, v.size ≤ 9223372036854775807
  short : n ≤ 9223372036854775807 ∧ cap ≤ 9223372036854775807
set_option maxRecDepth 100000 in
theorem stra_of_slice {H : Type} {enc : TypeId × Value → H} {W : World} {fuel : Nat} {held : Bool} {da : Option Addr} {n cap : Nat} {x : DataW H × List MemPlace}
    (h : DataW.trod enc Tryz.prog W 0 (fun _ => true) held fuel 29 (Value.slice da n cap).cells.toList = some x) : ∃ l, StrA W da n cap l := by
  have c1 : Tryz.prog.cellsOf 9 = 1 := by kernel_rfl
  rcases open_strings Tryz.underlying29 Tryz.underlying9 c1 h with ⟨e, _⟩ | ⟨a, len, cap', ss, e, _, hl, hm, hss, _, hc, hw⟩
  · simp [Value.cells] at e
    obtain ⟨rfl, rfl, rfl⟩ := e
    exact ⟨[], ⟨rfl, fun h => absurd h (by omega), by simp, by omega⟩⟩
  · simp [Value.cells] at e
    obtain ⟨rfl, rfl, rfl⟩ := e
    simp only [if_true] at hss
    unfold maxLen at hm hw
    refine ⟨ss.take n, ⟨by rw [List.length_take]; omega, fun hn => ?_, fun s hs => hw s (List.mem_of_mem_take hs), by omega⟩⟩
    obtain ⟨b, off, spot⟩ := a
    have h0 := hc 0 (by omega)
    have hspot : spot = none := by simpa [Addr.add] using World.cell?_spot h0
    subst hspot
    refine ⟨b, off, rfl, World.block_lt_of_cell? W _ (by simpa [Addr.add] using h0), hl, fun i v hv => ?_⟩
    have hi := (List.getElem?_eq_some_iff.1 hv).1
    rw [List.length_take] at hi
    have h1 := hc i (by omega)
    rw [Addr.add_mid] at h1
    rw [h1]
    have : ss[i]? = some v := by rw [List.getElem?_take, if_pos (by omega)] at hv; exact hv
    rw [List.getD_eq_getElem?_getD, this]; rfl
end Go.Proofs.YtceeilojcifgeaaGreatDoor
