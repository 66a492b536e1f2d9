/-
  Slices of lines and of bytes in an argument, opened (for seats without entries and changes).
-/
import Derived.Test.YtbfgkbcpkldofaaDoorH1
import Derived.Test.YtbfgkbcpkldofaaDoorH0
import Derived.Deep.Slices
import Derived.SliceStrings
import Derived.WalkKit
import Derived.ProofKit
import Derived.OpenShut
import Derived.ShutString
import Derived.ChangeOld
import Derived.Below
namespace Go.Proofs.YtbfgkbcpkldofaaDoor
open Go.ChangeShapes Go.WideShapes Go.ChangeAt Go.RowKit

instance : Inhabited Ln := ⟨⟨none, 0, 0, []⟩⟩
theorem lines_of_slice {H : Type} {enc : TypeId × Value → H} {W : World} {fuel : Nat} {held : Bool} {pa : Option Addr} {np ncap : Nat} {x : DataW H × List MemPlace}
    (h : DataW.trod enc Tryd.prog W 0 (fun _ => true) held fuel 46 (Value.slice pa np ncap).cells.toList = some x) :
    ∃ ls, LinesIn W W.heap.size pa np ls ∧ np ≤ 9223372036854775807 ∧ (∀ q ∈ ls, q.n ≤ 9223372036854775807) ∧ (∀ q ∈ ls, ∀ s ∈ q.l, s.size ≤ 9223372036854775807) ∧ (pa = none → ncap = 0) := by
  have c1 : Tryd.prog.cellsOf 9 = 1 := by kernel_rfl
  have c2 : Tryd.prog.cellsOf 43 = 1 := by kernel_rfl
  rcases Go.Deep.open_slice1 Tryd.underlying46 c2 h with ⟨hcs, _⟩ | ⟨a, len, cap', m, k, V, D, Pl, hcs, _, hl, hm, hmm, _, hr⟩
  · simp [Value.cells] at hcs
    obtain ⟨rfl, rfl, rfl⟩ := hcs
    exact ⟨[], ⟨rfl, fun h => absurd h (by omega), fun q hq => (by cases hq)⟩, by omega, fun q hq => (by cases hq), fun q hq => (by cases hq), fun _ => rfl⟩
  · simp [Value.cells] at hcs
    obtain ⟨rfl, rfl, rfl⟩ := hcs
    simp only [if_true] at hmm
    subst hmm
    unfold maxLen at hm
    have each : ∀ i, i < m → ∃ q : Ln, V i = q.val ∧ StrsIn W W.heap.size q.sp q.n q.l ∧ q.n ≤ 9223372036854775807 ∧ ∀ s ∈ q.l, s.size ≤ 9223372036854775807 := by
      intro i hi
      rcases open_strings Tryd.underlying43 Tryd.underlying9 c1 (hr i hi).2 with ⟨e, _⟩ | ⟨a2, len2, cap2, ss, e, _, hl2, hm2, hss, _, hc, hw⟩
      · have e2 : V i = .slice none 0 0 := by simpa using e
        exact ⟨⟨none, 0, 0, []⟩, e2, ⟨rfl, fun h => absurd h (by simp)⟩, by show 0 ≤ _; omega, fun s hs => by cases hs⟩
      · have e2 : V i = .slice (some a2) len2 cap2 := by simpa using e
        simp only [if_true] at hss
        unfold maxLen at hm2 hw
        refine ⟨⟨some a2, len2, cap2, ss.take len2⟩, e2, ⟨by show (ss.take len2).length = len2; rw [List.length_take]; omega, fun hn => ?_⟩, by show len2 ≤ _; omega, fun s hs => hw s (List.mem_of_mem_take hs)⟩
        have hn' : 0 < len2 := hn
        obtain ⟨b, off, spot⟩ := a2
        have h0 := hc 0 (by omega)
        have hspot : spot = none := by simpa [Addr.add] using World.cell?_spot h0
        subst hspot
        refine ⟨b, off, rfl, World.block_lt_of_cell? W _ (by simpa [Addr.add] using h0), fun j hj => ?_⟩
        have hj' : j < len2 := by
          have : j < (ss.take len2).length := hj
          rw [List.length_take] at this; omega
        have := hc j (by omega)
        rw [Addr.add_mid] at this
        rw [this]
        have hjs : j < ss.length := by omega
        simp [List.getD_eq_getElem?_getD, List.getElem?_eq_getElem hjs]
    obtain ⟨f, hf⟩ := Go.Deep.choose_lt each
    refine ⟨(List.range np).map f, ⟨by simp, fun hn => ?_, fun q hq => ?_⟩, by omega, fun q hq => ?_, fun q hq => ?_, fun h => by cases h⟩
    · obtain ⟨b, off, spot⟩ := a
      have h0 := (hr 0 (by omega)).1
      have hspot : spot = none := by simpa [Addr.add] using World.cell?_spot h0
      subst hspot
      refine ⟨b, off, rfl, World.block_lt_of_cell? W _ (by simpa [Addr.add] using h0), fun j hj => ?_⟩
      have hj' : j < np := by simpa using hj
      have := (hr j (by omega)).1
      rw [Addr.add_mid] at this
      rw [this, (hf j (by omega)).1]; simp
    · obtain ⟨i, hi, rfl⟩ := List.mem_map.1 hq
      have hi' : i < np := by simpa using hi
      exact (hf i (by omega)).2.1
    · obtain ⟨i, hi, rfl⟩ := List.mem_map.1 hq
      have hi' : i < np := by simpa using hi
      exact (hf i (by omega)).2.2.1
    · obtain ⟨i, hi, rfl⟩ := List.mem_map.1 hq
      have hi' : i < np := by simpa using hi
      exact (hf i (by omega)).2.2.2

theorem bsrc_of_bytes {H : Type} {enc : TypeId × Value → H} {W : World} {fuel : Nat} {held : Bool} {sp : Option Addr} {n cap : Nat} {x : DataW H × List MemPlace}
    (h : DataW.trod enc Tryd.prog W 0 (fun _ => true) held fuel 51 (Value.slice sp n cap).cells.toList = some x) : ∃ l, BSrc W W.heap.size sp n cap l := by
  rcases open_ints Tryd.underlying51 Tryd.underlying5 (by kernel_rfl) h with ⟨hcs, _⟩ | ⟨a, len, cap', zs, hcs, _, hl, hm, hzl, _, hc, hz⟩
  · simp [Value.cells] at hcs
    obtain ⟨rfl, rfl, rfl⟩ := hcs
    exact ⟨[], rfl, fun h => absurd h (by omega)⟩
  · simp [Value.cells] at hcs
    obtain ⟨rfl, rfl, rfl⟩ := hcs
    simp only [if_true] at hzl
    refine ⟨(zs.take n).map fun z => UInt8.ofNat z.toNat, by rw [List.length_map, List.length_take]; omega, fun hn => ?_⟩
    obtain ⟨b, off, spot⟩ := a
    have h0 := hc 0 (by omega)
    have hspot : spot = none := by simpa [Addr.add] using World.cell?_spot h0
    subst hspot
    refine ⟨b, off, rfl, World.block_lt_of_cell? W _ (by simpa [Addr.add] using h0), hl, fun j hj => ?_⟩
    rw [List.length_map, List.length_take] at hj
    have h1 := hc j (by omega)
    rw [Addr.add_mid] at h1
    have hb := bounds_u8 (hz (zs[j]'(by omega)) (List.getElem_mem (by omega)))
    have hg : zs.getD j 0 = zs[j]'(by omega) := by rw [List.getD_eq_getElem?_getD, List.getElem?_eq_getElem (by omega)]; rfl
    rw [h1, hg]
    simp; omega
end Go.Proofs.YtbfgkbcpkldofaaDoor
