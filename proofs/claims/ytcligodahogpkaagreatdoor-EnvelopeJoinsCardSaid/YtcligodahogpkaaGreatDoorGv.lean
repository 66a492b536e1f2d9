/-
  Arguments opened: digests and halves as arrays of bytes (conditions in each theorem).
-/
import Derived.ChangeSlices
import Derived.ProofKit
import Derived.OpenShut
import Derived.Test.YtcligodahogpkaaGreatDoorGp
import Derived.Deep.Matrix
set_option maxRecDepth 100000
set_option maxHeartbeats 8000000
namespace Go.Proofs.YtcligodahogpkaaGreatDoor
open Go.ChangeShapes Go.WideShapes Go.ChangeAt Go.RowKit
theorem EE {H : Type} {enc : TypeId × Value → H} {W : World} {base fuel n : Nat} {spare : Nat → Bool} {held : Bool} {t e : TypeId} {k : IntKind} {cs : List Value} {x : DataW H × List MemPlace}
 (ht : Tryz.prog.underlying t = some (.array n e)) (he : Tryz.prog.underlying e = some (.int k)) (c1 : Tryz.prog.cellsOf e = 1) (cn : Tryz.prog.cellsOf t = n)
 (h : DataW.trod enc Tryz.prog W base spare held fuel t cs = some x) : ∃ L : List Int, cs = L.map (Value.int k) ∧ L.length = n ∧ ∀ y ∈ L, (Lit.int k y).wf = true := by
 obtain ⟨xs, m, _, _, hl, hx, hall⟩ := DataW.trod_array ht h
 rw [cn] at hl
 rw [c1] at hall
 have each : ∀ i, (hi : i < cs.length) → cs[i] = .int k (intOf cs[i]) ∧ (Lit.int k (intOf cs[i])).wf = true := by
  intro i hi
  have h1 := hall i (by omega)
  rw [List.getElem?_eq_getElem (by omega)] at h1
  have e1 : (cs.drop (i * 1)).take 1 = [cs[i]] := by
   rw [Nat.mul_one, List.drop_eq_getElem_cons hi, List.take_succ_cons, List.take_zero]
  rw [e1] at h1
  obtain ⟨z, e0, _, wn⟩ := DataW.trod_int he h1
  have e2 : cs[i] = .int k z := by simpa using e0
  rw [e2]
  exact ⟨rfl, by simpa [intOf] using wn⟩
 refine ⟨cs.map intOf, ?_, by simp [hl], fun y hy => ?_⟩
 ·apply List.ext_getElem
  ·simp
  ·intro i h1 h2
   simp only [List.getElem_map]
   exact (each i h1).1
 ·obtain ⟨v, hv, rfl⟩ := List.mem_map.1 hy
  obtain ⟨i, hi, rfl⟩ := List.getElem_of_mem hv
  exact (each i hi).2
theorem oW {H : Type} {enc : TypeId × Value → H} {W : World} {base fuel : Nat} {spare : Nat → Bool} {held : Bool} {cs : List Value} {x : DataW H × List MemPlace}
 (h : DataW.trod enc Tryz.prog W base spare held fuel 54 cs = some x) : ∃ L : List Int, cs = L.map (Value.int .u8) ∧ H16 L := by
 obtain ⟨L, h1, h2, h3⟩ := EE Tryz.underlying54 Tryz.underlying5 (by kernel_rfl) (by kernel_rfl) h
 refine ⟨L, h1, h2, fun y hy => ?_⟩
 have hb := bounds_u8 (h3 y hy)
 exact ⟨hb.1, by omega⟩
theorem mW {H : Type} {enc : TypeId × Value → H} {W : World} {fuel : Nat} {held : Bool} {da : Option Addr} {n cap : Nat} {x : DataW H × List MemPlace}
 (h : DataW.trod enc Tryz.prog W 0 (fun _ => true) held fuel 58 (Value.slice da n cap).cells.toList = some x) : ∃ l, HvsIn W W.heap.size da n cap l ∧ (da = none → cap = 0) ∧ n ≤ 9223372036854775807 := by
 have c16 : Tryz.prog.cellsOf 54 = 16 := by kernel_rfl
 rcases Go.Deep.open_slice Tryz.underlying58 h with ⟨hcs, _⟩ | ⟨a, len, cap', m, k, D, Pl, hcs, _, hl, hm, hmm, _, hr⟩
 ·simp [Value.cells] at hcs
  obtain ⟨rfl, rfl, rfl⟩ := hcs
  exact ⟨[], ⟨rfl, fun y hy => (by cases hy), fun h => absurd h (by omega)⟩, fun _ => rfl, by omega⟩
 ·simp [Value.cells] at hcs
  obtain ⟨rfl, rfl, rfl⟩ := hcs
  simp only [if_true] at hmm
  subst hmm
  unfold maxLen at hm
  rw [c16] at hr
  have each : ∀ i, i < m → ∃ y : List Int, H16 y ∧ ∀ j, j < 16 → W.cell? ((a.add (i * 16)).add j) = (y.map (Value.int .u8))[j]? := by
   intro i hi
   obtain ⟨cs', h1, h2⟩ := hr i hi
   obtain ⟨y, rfl, hy⟩ := oW h2
   obtain ⟨_, _, hc⟩ := World.cells?_some h1
   exact ⟨y, hy, fun j hj => hc j (by omega)⟩
  obtain ⟨f, hf⟩ := Go.Deep.choose_lt each
  refine ⟨(List.range n).map f, ⟨by simp, fun y hy => ?_, fun hn => ?_⟩, fun e => (by cases e), by omega⟩
  ·obtain ⟨i, hi, rfl⟩ := List.mem_map.1 hy
   exact (hf i (by have : i < n := by simpa using hi
                   omega)).1
  ·obtain ⟨b, off, spot⟩ := a
   have h0 := (hf 0 (by omega)).2 0 (by omega)
   have hz : 0 < ((f 0).map (Value.int .u8)).length := by rw [List.length_map, (hf 0 (by omega)).1.1]; omega
   have hspot : spot = none := by
    have h0' := h0
    rw [List.getElem?_eq_getElem hz] at h0'
    simpa [Addr.add] using World.cell?_spot h0'
   subst hspot
   refine ⟨b, off, rfl, World.block_lt_of_cell? W _ (by rw [List.getElem?_eq_getElem hz] at h0; simpa [Addr.add] using h0), hl, fun i hi j v hv => ?_⟩
   have e : ((List.range n).map f).getD i [] = f i := by simp [List.getD_eq_getElem?_getD, hi]
   rw [e] at hv
   have h1 := hf i (by omega)
   have hj : j < 16 := by have := (List.getElem?_eq_some_iff.1 hv).1; rw [List.length_map, h1.1.1] at this; exact this
   have h2 := h1.2 j hj
   rw [Addr.add_mid, Addr.add_mid] at h2
   rw [h2]; exact hv
end Go.Proofs.YtcligodahogpkaaGreatDoor
