/-
  Arguments: a slice of slices of bytes, opened.
-/
import Derived.Test.YtfehgkpmjnmpeaaDoorGa
import Derived.Deep.Matrix
import Derived.WalkKit
import Derived.ProofKit
import Derived.OpenShut
import Derived.ShutString
import Derived.ChangeOld
import Derived.Below
namespace Go.Proofs.YtfehgkpmjnmpeaaDoor
open Go.ChangeShapes Go.WideShapes Go.ChangeAt Go.RowKit

theorem parts_of_rows {H : Type} {W : World} {pa : Option Addr} {np ncap : Nat} {x : DataW H × List MemPlace}
    (h : ((Value.slice pa np ncap).cells.toList = [.slice none 0 0] ∧ x = (.nil, [])) ∨
      ∃ (a : Addr) (len cap : Nat) (A : Nat → Option Addr) (L C : Nat → Nat) (Z : Nat → List Int), (Value.slice pa np ncap).cells.toList = [.slice (some a) len cap] ∧ 0 ≤ a.block ∧ len ≤ cap ∧ cap ≤ maxLen ∧
      x = (.slice ((List.range len).map fun r => Go.Deep.intRow .u8 (A r) (L r) (Z r)) ((List.range (cap - len)).map fun j => Go.Deep.intRow .u8 (A (len + j)) (L (len + j)) (Z (len + j))), MemPlace.row a cap ++ (List.range cap).flatMap fun r => Go.Deep.intRowPlaces (A r) (Z r)) ∧
      ∀ r, r < cap → W.cell? (a.add r) = some (.slice (A r) (L r) (C r)) ∧ L r ≤ C r ∧ C r ≤ maxLen ∧ (Z r).length = C r ∧ (∀ n ∈ Z r, (Lit.int .u8 n).wf = true) ∧ (A r = none → C r = 0) ∧
        ∀ a', A r = some a' → 0 ≤ a'.block ∧ ∀ c, c < C r → W.cell? (a'.add c) = some (.int .u8 ((Z r).getD c 0))) :
    ∃ ps, PartsIn W W.heap.size pa np ps ∧ (∀ q ∈ ps, q.sp = none → q.cap = 0) ∧ np ≤ 9223372036854775807 ∧ ∀ q ∈ ps, q.n ≤ 9223372036854775807 := by
  rcases h with ⟨hcs, _⟩ | ⟨a, len, cap, A, L, C, Z, hcs, _, hl, hm, _, hr⟩
  · simp [Value.cells] at hcs
    obtain ⟨rfl, rfl, rfl⟩ := hcs
    exact ⟨[], ⟨rfl, fun h => absurd h (by omega), fun q hq => by cases hq⟩, fun q hq => (by cases hq), by omega, fun q hq => (by cases hq)⟩
  · simp [Value.cells] at hcs
    obtain ⟨rfl, rfl, rfl⟩ := hcs
    unfold maxLen at hm
    refine ⟨(List.range np).map fun r => ⟨A r, L r, C r, (Z r).take (L r)⟩, ⟨by simp, fun hn => ?_, fun q hq => ?_⟩, fun q hq => ?_, by omega, fun q hq => ?_⟩
    · obtain ⟨b, off, spot⟩ := a
      have h0 := (hr 0 (by omega)).1
      have hspot : spot = none := by simpa [Addr.add] using World.cell?_spot h0
      subst hspot
      refine ⟨b, off, rfl, World.block_lt_of_cell? W _ (by simpa [Addr.add] using h0), fun j hj => ?_⟩
      have hj' : j < np := by simpa using hj
      have := (hr j (by omega)).1
      rw [Addr.add_mid] at this
      rw [this]; simp [Part.val]
    · obtain ⟨r, hrn, rfl⟩ := List.mem_map.1 hq
      have hrn' : r < np := by simpa using hrn
      obtain ⟨_, h2, h3, h4, h5, _, h7⟩ := hr r (by omega)
      refine ⟨by show ((Z r).take (L r)).length = L r; rw [List.length_take]; omega, fun x hx => ?_, fun hn => ?_⟩
      · have := bounds_u8 (h5 x (List.mem_of_mem_take hx)); omega
      · have hn' : 0 < L r := hn
        cases hA : A r with
        | none => have := (hr r (by omega)).2.2.2.2.2.1 hA; omega
        | some a' =>
          obtain ⟨b, off, spot⟩ := a'
          obtain ⟨_, hc⟩ := h7 _ hA
          have h0 := hc 0 (by omega)
          have hspot : spot = none := by simpa [Addr.add] using World.cell?_spot h0
          subst hspot
          refine ⟨b, off, rfl, World.block_lt_of_cell? W _ (by simpa [Addr.add] using h0), h2, fun j hj => ?_⟩
          have hj' : j < L r := hj
          have := hc j (by omega)
          rw [Addr.add_mid] at this
          rw [this]; simp [List.getD_eq_getElem?_getD, hj']
    · obtain ⟨r, hrn, rfl⟩ := List.mem_map.1 hq
      have hrn' : r < np := by simpa using hrn
      exact (hr r (by omega)).2.2.2.2.2.1
    · obtain ⟨r, hrn, rfl⟩ := List.mem_map.1 hq
      have hrn' : r < np := by simpa using hrn
      obtain ⟨_, h2, h3, _⟩ := hr r (by omega)
      unfold maxLen at h3
      show L r ≤ _
      omega
theorem parts_of_slice {H : Type} {enc : TypeId × Value → H} {W : World} {fuel : Nat} {held : Bool} {pa : Option Addr} {np ncap : Nat} {x : DataW H × List MemPlace}
    (h : DataW.trod enc Tryd.prog W 0 (fun _ => true) held fuel 44 (Value.slice pa np ncap).cells.toList = some x) :
    ∃ ps, PartsIn W W.heap.size pa np ps ∧ (∀ q ∈ ps, q.sp = none → q.cap = 0) ∧ np ≤ 9223372036854775807 ∧ ∀ q ∈ ps, q.n ≤ 9223372036854775807 :=
  parts_of_rows (Go.Deep.open_int_rows Tryd.underlying44 Tryd.underlying35 Tryd.underlying5 (by kernel_rfl) (by kernel_rfl) h)
end Go.Proofs.YtfehgkpmjnmpeaaDoor
