/-
  The statement DocumentJoins, whole: the encoded form of lines followed by others is that of the first followed by that of the others. It holds for every input.
-/
import Derived.Test.YtnhidfinmghjmabRows
import Derived.Test.YtnhidfinmghjmabLawJoins
import Derived.Deep.Slices
import Derived.SliceStrings
import Derived.WalkKit
import Derived.ProofKit
import Derived.OpenShut
import Derived.ShutString
import Derived.Below
namespace Go.Proofs.Ytnhidfinmghjmab.documentJoinsDone
open Go.ChangeShapes Go.WideShapes Go.ChangeAt Go.RowKit
open Go.ChangeMaps (open_string shut_string)

theorem own : ownKnob Try.prog.godebug = none := by kernel_rfl
theorem laidOut : laidOutB Try.prog = true := by kernel_rfl

instance : Inhabited Ln := ⟨⟨none, 0, 0, []⟩⟩
theorem lines_of_slice {H : Type} {enc : TypeId × Value → H} {W : World} {fuel : Nat} {held : Bool} {pa : Option Addr} {np ncap : Nat} {x : DataW H × List MemPlace}
    (h : DataW.trod enc Try.prog W 0 (fun _ => true) held fuel 27 (Value.slice pa np ncap).cells.toList = some x) :
    ∃ ls, LinesIn W W.heap.size pa np ls ∧ np ≤ 9223372036854775807 ∧ (∀ q ∈ ls, q.n ≤ 9223372036854775807) ∧ (∀ q ∈ ls, ∀ s ∈ q.l, s.size ≤ 9223372036854775807) ∧ (pa = none → ncap = 0) := by
  have c1 : Try.prog.cellsOf 9 = 1 := by kernel_rfl
  have c2 : Try.prog.cellsOf 38 = 1 := by kernel_rfl
  rcases Go.Deep.open_slice1 Try.underlying27 c2 h with ⟨hcs, _⟩ | ⟨a, len, cap', m, k, V, D, Pl, hcs, _, hl, hm, hmm, _, hr⟩
  · simp [Value.cells] at hcs
    obtain ⟨rfl, rfl, rfl⟩ := hcs
    exact ⟨[], ⟨rfl, fun h => absurd h (by omega), fun q hq => (by cases hq)⟩, by omega, fun q hq => (by cases hq), fun q hq => (by cases hq), fun _ => rfl⟩
  · simp [Value.cells] at hcs
    obtain ⟨rfl, rfl, rfl⟩ := hcs
    simp only [if_true] at hmm
    subst hmm
    unfold maxLen at hm
    have each : ∀ i, i < m → ∃ q : Ln, V i = q.val ∧ StrsIn W W.heap.size q.sp q.n q.l ∧ q.n ≤ 9223372036854775807 ∧ ∀ s ∈ q.l, s.size ≤ 9223372036854775807 := by
      intro i hi
      rcases open_strings Try.underlying38 Try.underlying9 c1 (hr i hi).2 with ⟨e, _⟩ | ⟨a2, len2, cap2, ss, e, _, hl2, hm2, hss, _, hc, hw⟩
      · have e2 : V i = .slice none 0 0 := by simpa using e
        exact ⟨⟨none, 0, 0, []⟩, e2, ⟨rfl, fun h => absurd h (by simp)⟩, by show 0 ≤ _; omega, fun s hs => by cases hs⟩
      · have e2 : V i = .slice (some a2) len2 cap2 := by simpa using e
        simp only [if_true] at hss
        unfold maxLen at hm2 hw
        refine ⟨⟨some a2, len2, cap2, ss.take len2⟩, e2, ⟨by show (ss.take len2).length = len2; rw [List.length_take]; omega, fun hn => ?_⟩, by show len2 ≤ _; omega, fun s hs => hw s (List.mem_of_mem_take hs)⟩
        have hn' : 0 < len2 := hn
        obtain ⟨b, off, spot⟩ := a2
        have h0 := hc 0 (by omega)
        have hspot : spot = none := by simpa [Addr.add] using World.cell?_spot h0
        subst hspot
        refine ⟨b, off, rfl, World.block_lt_of_cell? W _ (by simpa [Addr.add] using h0), fun j hj => ?_⟩
        have hj' : j < len2 := by
          have : j < (ss.take len2).length := hj
          rw [List.length_take] at this; omega
        have := hc j (by omega)
        rw [Addr.add_mid] at this
        rw [this]
        have hjs : j < ss.length := by omega
        simp [List.getD_eq_getElem?_getD, List.getElem?_eq_getElem hjs]
    obtain ⟨f, hf⟩ := Go.Deep.choose_lt each
    refine ⟨(List.range np).map f, ⟨by simp, fun hn => ?_, fun q hq => ?_⟩, by omega, fun q hq => ?_, fun q hq => ?_, fun h => by cases h⟩
    · obtain ⟨b, off, spot⟩ := a
      have h0 := (hr 0 (by omega)).1
      have hspot : spot = none := by simpa [Addr.add] using World.cell?_spot h0
      subst hspot
      refine ⟨b, off, rfl, World.block_lt_of_cell? W _ (by simpa [Addr.add] using h0), fun j hj => ?_⟩
      have hj' : j < np := by simpa using hj
      have := (hr j (by omega)).1
      rw [Addr.add_mid] at this
      rw [this, (hf j (by omega)).1]; simp
    · obtain ⟨i, hi, rfl⟩ := List.mem_map.1 hq
      have hi' : i < np := by simpa using hi
      exact (hf i (by omega)).2.1
    · obtain ⟨i, hi, rfl⟩ := List.mem_map.1 hq
      have hi' : i < np := by simpa using hi
      exact (hf i (by omega)).2.2.1
    · obtain ⟨i, hi, rfl⟩ := List.mem_map.1 hq
      have hi' : i < np := by simpa using hi
      exact (hf i (by omega)).2.2.2

theorem contract (H : Type) (enc : TypeId × Value → H) (W : World) (base : Nat) (args : Array Value) (ds gs : List (DataW H)) (before : List MemPlace)
    (hval : ∀ (j : Nat) t v, Try.f5.params[j]? = some t → args[j]? = some v → Value.okWide Try.prog W .any base t v)
    (hW : DataW.Whole enc Try.prog Try.f5.params.toList Rows.documentJoinsSpec.vars false W args.toList ds gs before) :
    Calls Try.prog 5 args W fun e W' => ∃ v, e = .returned v ∧ Rows.documentJoinsSpec.post enc Try.prog Try.f5 false true false false W args v W' := by
  have hW' := hW
  obtain ⟨p, q, hA0, hV, rfl, hfz, hnd⟩ := hW
  have hA : DataW.TrodAll enc Try.prog W 0 (fun _ => true) true Try.f5.params.toList args.toList ds p := hA0
  rw [Try.params5] at hA hval
  obtain ⟨v0, vs0, d0, ds0, p0, q0, hargs, rfl, rfl, h0, r0⟩ := trodAll_cons hA
  obtain ⟨v1, vs1, d1, ds1, p1, q1, rfl, rfl, rfl, h1, r1⟩ := trodAll_cons r0
  obtain ⟨rfl, rfl, rfl⟩ := trodAll_nil r1
  obtain rfl : args = #[v0, v1] := by cases args; simp_all
  obtain ⟨rfl, rfl⟩ := trodVars_none hV
  have k0 := h0
  have lt0 : ∀ x ∈ p0, x.block < W.heap.size := by obtain ⟨m, hm⟩ := k0; exact DataW.trod_lt m _ _ _ hm
  have k1 := h1
  have lt1 : ∀ x ∈ p1, x.block < W.heap.size := by obtain ⟨m, hm⟩ := k1; exact DataW.trod_lt m _ _ _ hm
  obtain ⟨pa0, np0, nc0, rfl⟩ := okWide_slice Try.underlying27 (hval 0 27 v0 rfl rfl)
  obtain ⟨ls0, hls0, hmx0, hmy0, hmz0, hnl0⟩ : ∃ ls, LinesIn W W.heap.size pa0 np0 ls ∧ np0 ≤ 9223372036854775807 ∧ (∀ q ∈ ls, q.n ≤ 9223372036854775807) ∧ (∀ q ∈ ls, ∀ s ∈ q.l, s.size ≤ 9223372036854775807) ∧ (pa0 = none → nc0 = 0) := by
    obtain ⟨fuel, hf⟩ := h0
    exact lines_of_slice hf
  obtain ⟨pa1, np1, nc1, rfl⟩ := okWide_slice Try.underlying27 (hval 1 27 v1 rfl rfl)
  obtain ⟨ls1, hls1, hmx1, hmy1, hmz1, hnl1⟩ : ∃ ls, LinesIn W W.heap.size pa1 np1 ls ∧ np1 ≤ 9223372036854775807 ∧ (∀ q ∈ ls, q.n ≤ 9223372036854775807) ∧ (∀ q ∈ ls, ∀ s ∈ q.l, s.size ≤ 9223372036854775807) ∧ (pa1 = none → nc1 = 0) := by
    obtain ⟨fuel, hf⟩ := h1
    exact lines_of_slice hf
  clear hA0
  refine (joins_any pa0 np0 nc0 ls0 pa1 np1 nc1 ls1 W hls0 hmx0 hmy0 hmz0 hnl0 hls1 hmx1 hmy1 hmz1 hnl1).mono fun e W' ⟨he, bel⟩ => ?_
  subst he
  exact ⟨_, rfl, _, _, _, [], _, [], hW', trodAll_mk1 (shut_bool Try.underlying4 _), (trodAll_cons_mk (Below.trod laidOut (by kernel_rfl) (of_decide_eq_true (by kernel_rfl)) k0 bel lt0) (trodAll_cons_mk (Below.trod laidOut (by kernel_rfl) (of_decide_eq_true (by kernel_rfl)) k1 bel lt1) trodAll_mk0)), rfl, bel.frame _, fun h => by cases h⟩

set_option maxRecDepth 100000 in
theorem lifted (os : Os) (started : os.Started) (H : Type) (enc : TypeId × Value → H) :
    ReturnsInHanded {} Try.checked os 5 .any (Rows.documentJoinsSpec.pre6 enc Try.prog Try.f5 Rows.documentJoinsRow.domain false) (Rows.documentJoinsSpec.post enc Try.prog Try.f5 false true false false) := by
  refine returnsInHanded_of_change (C := Try.checked) own started (by kernel_rfl) Try.func5
    (ChangeSpec.witness6 (enc := enc) (C := Try.checked) false ⟨#[], #[.slice none 0 0, .slice none 0 0], []⟩ 8 (by kernel_rfl) (by kernel_rfl) (by kernel_rfl) (by kernel_rfl)) ?_
  intro W base args ds gs before hval hW _ _
  exact contract H enc W base args ds gs before hval hW

/-- THE STATEMENT -/
theorem said : Rows.DocumentJoinsSaid :=
  OpenClaim.holds_of_wide 5 Try.f5 rfl rfl rfl rfl rfl rfl rfl ⟨rfl, rfl, rfl, rfl, rfl⟩ rfl rfl rfl rfl rfl (by kernel_rfl) Try.func5 (by kernel_rfl)
    (of_decide_eq_true (by kernel_rfl)) (by unfold Func.isWrapper; first | (rw [if_pos (by decide +kernel)]; kernel_rfl) | (rw [if_neg (by decide +kernel)]; exact ⟨rfl, rfl⟩))
    (fun os started H enc _ => lifted os started H enc)
#print axioms said
end Go.Proofs.Ytnhidfinmghjmab.documentJoinsDone
