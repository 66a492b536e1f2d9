/-
  Slices of numbers in an argument, opened.
-/
import Derived.Test.YtkookkhlgllneaaDoorSnO
import Derived.Test.YtkookkhlgllneaaDoorLawSnD
import Derived.Deep.Slices
import Derived.SliceStrings
import Derived.WalkKit
import Derived.ProofKit
import Derived.OpenShut
import Derived.ShutString
import Derived.ChangeOld
import Derived.Below
namespace Go.Proofs.YtkookkhlgllneaaDoor
open Go.ChangeShapes Go.WideShapes Go.ChangeAt Go.RowKit

set_option maxRecDepth 100000 in
theorem ints_of_slice {H : Type} {enc : TypeId × Value → H} {W : World} {fuel : Nat} {held : Bool} {da : Option Addr} {n cap : Nat} {x : DataW H × List MemPlace}
    (h : DataW.trod enc Tryd.prog W 0 (fun _ => true) held fuel 34 (Value.slice da n cap).cells.toList = some x) : ∃ l, IntsT W W.heap.size da n cap l := by
  have c1 : Tryd.prog.cellsOf 3 = 1 := by kernel_rfl
  rcases Go.Deep.open_slice Tryd.underlying34 h with ⟨hcs, _⟩ | ⟨a, len, cap', m, k, D, Pl, hcs, _, hl, hm, hmm, _, hr⟩
  · simp [Value.cells] at hcs
    obtain ⟨rfl, rfl, rfl⟩ := hcs
    exact ⟨[], ⟨rfl, fun h => absurd h (by omega), by simp, by omega⟩⟩
  · simp [Value.cells] at hcs
    obtain ⟨rfl, rfl, rfl⟩ := hcs
    simp only [if_true] at hmm
    subst hmm
    unfold maxLen at hm
    rw [c1] at hr
    have each : ∀ i, i < m → ∃ v : Int, (-9223372036854775808 ≤ v ∧ v ≤ 9223372036854775807) ∧ W.cell? (a.add (i * 1)) = some (.int .i64 v) := by
      intro i hi
      obtain ⟨cs', h1, h2⟩ := hr i hi
      obtain ⟨v, rfl, _, wn⟩ := DataW.trod_int Tryd.underlying3 h2
      obtain ⟨_, _, hc⟩ := World.cells?_some h1
      have h3 := hc 0 (by omega)
      have h4 : (a.add (i * 1)).add 0 = a.add (i * 1) := by
        cases a with
        | mk b o s => cases s <;> simp [Addr.add]
      rw [h4] at h3
      exact ⟨v, bounds_i64 wn, h3⟩
    obtain ⟨f, hf⟩ := Go.Deep.choose_lt each
    refine ⟨(List.range n).map f, ⟨by simp, fun hn => ?_, fun y hy => ?_, by omega⟩⟩
    · obtain ⟨b, off, spot⟩ := a
      have h0 := (hf 0 (by omega)).2
      have hspot : spot = none := by simpa [Addr.add] using World.cell?_spot h0
      subst hspot
      refine ⟨b, off, rfl, World.block_lt_of_cell? W _ (by simpa [Addr.add] using h0), hl, fun i v hv => ?_⟩
      have hi : i < n := by have := (List.getElem?_eq_some_iff.1 hv).1; simpa using this
      have e : v = f i := by rw [List.getElem?_map, List.getElem?_range hi] at hv; exact (Option.some.inj hv).symm
      subst e
      have h2 := (hf i (by omega)).2
      rw [Addr.add_mid, Nat.mul_one] at h2
      exact h2
    · obtain ⟨i, hi, rfl⟩ := List.mem_map.1 hy
      exact (hf i (by have : i < n := by simpa using hi
                      omega)).1

end Go.Proofs.YtkookkhlgllneaaDoor
