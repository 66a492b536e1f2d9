/-
  The statement DocumentBack, whole: documents are decoded from their encoded forms, and bytes that are decoded are the encoded form of what was decoded. The conditions are the row's own: two tables of the library start as its text lays them (the card ties them; the walk reads neither).
-/
import Derived.Test.YtmafefdchglpbaaDoorCards
import Derived.Test.YtmafefdchglpbaaDoorTie
import Derived.Test.YtmafefdchglpbaaDoorLawBck
import Derived.WalkKit
import Derived.ProofKit
import Derived.OpenShut
import Derived.ShutString
import Derived.ChangeOld
import Derived.Below
import Derived.Deep.DeepHandedRow
import Derived.Lib.LaidTab
import Derived.ChangeSlices
import Derived.Deep.Slices
import Derived.SliceStrings
namespace Go.Proofs.YtmafefdchglpbaaDoor.documentBackDone
open Go.ChangeShapes Go.WideShapes Go.ChangeAt Go.RowKit
open Go.ChangeMaps (open_string shut_string)

theorem own : ownKnob Tryd.prog.godebug = none := by kernel_rfl
theorem laidOut : laidOutB Tryd.prog = true := by kernel_rfl
theorem ofNat_toNat8D (k : Nat) (h : k < 256) : (UInt8.ofNat k).toNat = k := by simp; omega
theorem bsrc_of_bytes {H : Type} {enc : TypeId × Value → H} {W : World} {fuel : Nat} {held : Bool} {sp : Option Addr} {n cap : Nat} {x : DataW H × List MemPlace}
    (h : DataW.trod enc Tryd.prog W 0 (fun _ => true) held fuel 34 (Value.slice sp n cap).cells.toList = some x) : ∃ l, BSrc W W.heap.size sp n cap l := by
  rcases open_ints Tryd.underlying34 Tryd.underlying5 (by kernel_rfl) h with ⟨hcs, _⟩ | ⟨a, len, cap', zs, hcs, _, hl, hm, hzl, _, hc, hz⟩
  · simp [Value.cells] at hcs
    obtain ⟨rfl, rfl, rfl⟩ := hcs
    exact ⟨[], rfl, fun h => absurd h (by omega)⟩
  · simp [Value.cells] at hcs
    obtain ⟨rfl, rfl, rfl⟩ := hcs
    simp only [if_true] at hzl
    refine ⟨(zs.take n).map fun z => UInt8.ofNat z.toNat, by rw [List.length_map, List.length_take]; omega, fun hn => ?_⟩
    obtain ⟨b, off, spot⟩ := a
    have h0 := hc 0 (by omega)
    have hspot : spot = none := by simpa [Addr.add] using World.cell?_spot h0
    subst hspot
    refine ⟨b, off, rfl, World.block_lt_of_cell? W _ (by simpa [Addr.add] using h0), hl, fun j hj => ?_⟩
    rw [List.length_map, List.length_take] at hj
    have h1 := hc j (by omega)
    rw [Addr.add_mid] at h1
    have hb := bounds_u8 (hz (zs[j]'(by omega)) (List.getElem_mem (by omega)))
    have hg : zs.getD j 0 = zs[j]'(by omega) := by rw [List.getD_eq_getElem?_getD, List.getElem?_eq_getElem (by omega)]; rfl
    rw [h1, hg]
    simp; omega

instance : Inhabited Ln := ⟨⟨none, 0, 0, []⟩⟩
theorem lines_of_slice {H : Type} {enc : TypeId × Value → H} {W : World} {fuel : Nat} {held : Bool} {pa : Option Addr} {np ncap : Nat} {x : DataW H × List MemPlace}
    (h : DataW.trod enc Tryd.prog W 0 (fun _ => true) held fuel 35 (Value.slice pa np ncap).cells.toList = some x) :
    ∃ ls, LinesIn W W.heap.size pa np ls ∧ np ≤ 9223372036854775807 ∧ (∀ q ∈ ls, q.n ≤ 9223372036854775807) ∧ (∀ q ∈ ls, ∀ s ∈ q.l, s.size ≤ 9223372036854775807) ∧ (pa = none → ncap = 0) := by
  have c1 : Tryd.prog.cellsOf 9 = 1 := by kernel_rfl
  have c2 : Tryd.prog.cellsOf 61 = 1 := by kernel_rfl
  rcases Go.Deep.open_slice1 Tryd.underlying35 c2 h with ⟨hcs, _⟩ | ⟨a, len, cap', m, k, V, D, Pl, hcs, _, hl, hm, hmm, _, hr⟩
  · simp [Value.cells] at hcs
    obtain ⟨rfl, rfl, rfl⟩ := hcs
    exact ⟨[], ⟨rfl, fun h => absurd h (by omega), fun q hq => (by cases hq)⟩, by omega, fun q hq => (by cases hq), fun q hq => (by cases hq), fun _ => rfl⟩
  · simp [Value.cells] at hcs
    obtain ⟨rfl, rfl, rfl⟩ := hcs
    simp only [if_true] at hmm
    subst hmm
    unfold maxLen at hm
    have each : ∀ i, i < m → ∃ q : Ln, V i = q.val ∧ StrsIn W W.heap.size q.sp q.n q.l ∧ q.n ≤ 9223372036854775807 ∧ ∀ s ∈ q.l, s.size ≤ 9223372036854775807 := by
      intro i hi
      rcases open_strings Tryd.underlying61 Tryd.underlying9 c1 (hr i hi).2 with ⟨e, _⟩ | ⟨a2, len2, cap2, ss, e, _, hl2, hm2, hss, _, hc, hw⟩
      · have e2 : V i = .slice none 0 0 := by simpa using e
        exact ⟨⟨none, 0, 0, []⟩, e2, ⟨rfl, fun h => absurd h (by simp)⟩, by show 0 ≤ _; omega, fun s hs => by cases hs⟩
      · have e2 : V i = .slice (some a2) len2 cap2 := by simpa using e
        simp only [if_true] at hss
        unfold maxLen at hm2 hw
        refine ⟨⟨some a2, len2, cap2, ss.take len2⟩, e2, ⟨by show (ss.take len2).length = len2; rw [List.length_take]; omega, fun hn => ?_⟩, by show len2 ≤ _; omega, fun s hs => hw s (List.mem_of_mem_take hs)⟩
        have hn' : 0 < len2 := hn
        obtain ⟨b, off, spot⟩ := a2
        have h0 := hc 0 (by omega)
        have hspot : spot = none := by simpa [Addr.add] using World.cell?_spot h0
        subst hspot
        refine ⟨b, off, rfl, World.block_lt_of_cell? W _ (by simpa [Addr.add] using h0), fun j hj => ?_⟩
        have hj' : j < len2 := by
          have : j < (ss.take len2).length := hj
          rw [List.length_take] at this; omega
        have := hc j (by omega)
        rw [Addr.add_mid] at this
        rw [this]
        have hjs : j < ss.length := by omega
        simp [List.getD_eq_getElem?_getD, List.getElem?_eq_getElem hjs]
    obtain ⟨f, hf⟩ := Go.Deep.choose_lt each
    refine ⟨(List.range np).map f, ⟨by simp, fun hn => ?_, fun q hq => ?_⟩, by omega, fun q hq => ?_, fun q hq => ?_, fun h => by cases h⟩
    · obtain ⟨b, off, spot⟩ := a
      have h0 := (hr 0 (by omega)).1
      have hspot : spot = none := by simpa [Addr.add] using World.cell?_spot h0
      subst hspot
      refine ⟨b, off, rfl, World.block_lt_of_cell? W _ (by simpa [Addr.add] using h0), fun j hj => ?_⟩
      have hj' : j < np := by simpa using hj
      have := (hr j (by omega)).1
      rw [Addr.add_mid] at this
      rw [this, (hf j (by omega)).1]; simp
    · obtain ⟨i, hi, rfl⟩ := List.mem_map.1 hq
      have hi' : i < np := by simpa using hi
      exact (hf i (by omega)).2.1
    · obtain ⟨i, hi, rfl⟩ := List.mem_map.1 hq
      have hi' : i < np := by simpa using hi
      exact (hf i (by omega)).2.2.1
    · obtain ⟨i, hi, rfl⟩ := List.mem_map.1 hq
      have hi' : i < np := by simpa using hi
      exact (hf i (by omega)).2.2.2
set_option maxRecDepth 100000 in
theorem contract (H : Type) (enc : TypeId × Value → H) (W : World) (base : Nat) (args : Array Value) (ds gs : List (DataW H)) (before : List MemPlace)
    (hval : ∀ (j : Nat) t v, Tryd.f5.params[j]? = some t → args[j]? = some v → Value.okWide Tryd.prog W .any base t v)
    (hW : DataW.Whole enc Tryd.prog Tryd.f5.params.toList Rows.documentBackSpec.vars false W args.toList ds gs before) :
    Calls Tryd.prog 5 args W fun e W' => ∃ v, e = .returned v ∧ Rows.documentBackSpec.post enc Tryd.prog Tryd.f5 false true false false W args v W' := by
  have hW' := hW
  obtain ⟨p, q, hA0, hV, rfl, hfz, hnd⟩ := hW
  have hA : DataW.TrodAll enc Tryd.prog W 0 (fun _ => true) true Tryd.f5.params.toList args.toList ds p := hA0
  rw [Tryd.params5] at hA hval
  obtain ⟨v0, vs0, d0, ds0, p0, q0, hargs, rfl, rfl, h0, r0⟩ := trodAll_cons hA
  obtain ⟨v1, vs1, d1, ds1, p1, q1, rfl, rfl, rfl, h1, r1⟩ := trodAll_cons r0
  obtain ⟨rfl, rfl, rfl⟩ := trodAll_nil r1
  obtain rfl : args = #[v0, v1] := by cases args; simp_all
  obtain ⟨rfl, rfl⟩ := trodVars_none hV
  have k0 := h0
  have lt0 : ∀ x ∈ p0, x.block < W.heap.size := by obtain ⟨m, hm⟩ := k0; exact DataW.trod_lt m _ _ _ hm
  have k1 := h1
  have lt1 : ∀ x ∈ p1, x.block < W.heap.size := by obtain ⟨m, hm⟩ := k1; exact DataW.trod_lt m _ _ _ hm
  obtain ⟨pa0, np0, nc0, rfl⟩ := okWide_slice Tryd.underlying35 (hval 0 35 v0 rfl rfl)
  obtain ⟨ls0, hls0, hmx0, hmy0, hmz0, _⟩ : ∃ ls, LinesIn W W.heap.size pa0 np0 ls ∧ np0 ≤ 9223372036854775807 ∧ (∀ q ∈ ls, q.n ≤ 9223372036854775807) ∧ (∀ q ∈ ls, ∀ s ∈ q.l, s.size ≤ 9223372036854775807) ∧ (pa0 = none → nc0 = 0) := by
    obtain ⟨fuel, hf⟩ := h0
    exact lines_of_slice hf
  obtain ⟨sp, bn, bcap, rfl⟩ := okWide_slice Tryd.underlying34 (hval 1 34 v1 rfl rfl)
  obtain ⟨l, hb⟩ : ∃ l, BSrc W W.heap.size sp bn bcap l := by
    obtain ⟨fuel, hf⟩ := h1
    exact bsrc_of_bytes hf
  clear hA0
  refine (docBack_any pa0 np0 nc0 ls0 sp bn bcap l W hls0 hmx0 hmy0 hmz0 hb).mono fun e W' ⟨he, bel⟩ => ?_
  subst he
  exact ⟨_, rfl, _, _, _, [], _, [], hW', trodAll_mk1 (shut_bool Tryd.underlying4 _), (trodAll_cons_mk (Below.trod laidOut (by kernel_rfl) (of_decide_eq_true (by kernel_rfl)) k0 bel lt0) (trodAll_cons_mk (Below.trod laidOut (by kernel_rfl) (of_decide_eq_true (by kernel_rfl)) k1 bel lt1) trodAll_mk0)), rfl, bel.frame _, fun h => by cases h⟩

/-- a world for the witness: the settled one, the two tables holding what their texts lay -/
def acc : List Int := [128, 191, 160, 191, 128, 159, 144, 191, 128, 143] ++ List.replicate 22 0
def layCells (vs : List Int) : Obj → Obj
  | .cells _ t frozen => .cells (vs.map (Value.int .u8)).toArray t frozen
  | o => o
noncomputable def laidWorld (os : Os) : World :=
  { World.holding Tryd.prog os ⟨#[], #[], []⟩ with heap := ((World.holding Tryd.prog os ⟨#[], #[], []⟩).heap.modify 4 (layCells acc)).modify 3 (layCells (Go.Pinned.utf8FirstZ.map Int.ofNat)) }
theorem laid_met (os : Os) : laidMet Tryd.prog Rows.documentBackRow.laid ((laidWorld os).forCall (fun _ _ => 0) ⟨#[], #[.slice none 0 0, .slice none 0 0], []⟩).memory :=
  laidMet_of_run' 8 (by kernel_rfl) (by kernel_rfl)
theorem reads (os : Os) {H : Type} (enc : TypeId × Value → H) : ∃ places, DataW.whole enc Tryd.prog ((laidWorld os).forCall (fun _ _ => 0) ⟨#[], #[.slice none 0 0, .slice none 0 0], []⟩).memory Tryd.f5.params.toList Rows.documentBackSpec.vars false #[.slice none 0 0, .slice none 0 0].toList 8 = some ([.nil, .nil], [], places) :=
  ⟨[], by kernel_rfl⟩

set_option maxRecDepth 100000 in
theorem lifted (os : Os) (started : os.Started) (H : Type) (enc : TypeId × Value → H) (F : Stop.Interp) :
    ReturnsInHanded {} Tryd.checked os 5 .any ((OpenSpec.ofChange Rows.documentBackSpec).preRow enc Tryd.prog Tryd.f5 Rows.documentBackRow.domain false Rows.documentBackRow.laid) (((OpenSpec.ofChange Rows.documentBackSpec).at F).post enc Tryd.prog Tryd.f5 false true false false) := by
  obtain ⟨places, hx⟩ := reads os enc
  refine returnsInHanded_of_row (C := Tryd.checked) (s := OpenSpec.ofChange Rows.documentBackSpec) own started (by kernel_rfl) Tryd.func5
    (witness_row_at (enc := enc) (C := Tryd.checked) false (laidWorld os) #[.slice none 0 0, .slice none 0 0] rfl (by kernel_rfl) (by kernel_rfl) (by kernel_rfl)
      (OpenSpec.preRow_of_cond 8 hx (by kernel_rfl) (fun k hk => by cases hk) (by kernel_rfl) (laid_met os))) ?_
  intro W base args ds gs before hval hW _ _ _ _ _ _
  exact contract H enc W base args ds gs before hval hW

theorem said : Rows.DocumentBackSaid :=
  OpenClaim.holds_of_cond 5 Tryd.f5 rfl rfl rfl rfl rfl rfl rfl ⟨rfl, rfl, rfl, rfl, rfl⟩ rfl rfl rfl rfl rfl (by kernel_rfl) Tryd.func5 (by kernel_rfl)
    (of_decide_eq_true (by kernel_rfl)) (by unfold Func.isWrapper; first | (rw [if_pos (by decide +kernel)]; kernel_rfl) | (rw [if_neg (by decide +kernel)]; exact ⟨rfl, rfl⟩))
    (fun os started H enc _ F => by rw [OpenClaim.pre_eq_preRow]; exact lifted os started H enc F)

theorem plain (f : FuncId) (fn : Func) (hf : Tryd.pinned.checked.prog.funcNamed "admission/admissionlaw02.DocumentBack" = some f) (hfn : Tryd.pinned.checked.prog.funcs[f]? = some fn) :
    false = Tryd.pinned.checked.prog.looks [] ∧ ∀ (j : Nat) t, fn.params[j]? = some t → Tryd.pinned.checked.prog.wantsStandIn t = false := by
  obtain rfl : f = 5 := Option.some.inj ((show Tryd.prog.funcNamed "admission/admissionlaw02.DocumentBack" = some 5 by kernel_rfl).symm.trans hf) |>.symm
  obtain rfl : fn = Tryd.f5 := (Option.some.inj (Tryd.func5.symm.trans hfn)).symm
  refine ⟨by kernel_rfl, fun j t ht => ?_⟩
  rw [Tryd.params5] at ht
  have hm := Array.mem_of_getElem? ht
  have : t = 35 ∨ t = 34 := by simpa using hm
  rcases this with rfl | rfl
  · exact (show Tryd.prog.wantsStandIn 35 = false by kernel_rfl)
  · exact (show Tryd.prog.wantsStandIn 34 = false by kernel_rfl)

/-- THE CARD -/
theorem card : Rows.DocumentBackCardSaid :=
  Claim7.holds_tied_plain_at .later [] _ _ _ _ said (fun _ h => by cases h) (by kernel_rfl) (fun _ h => by cases h) documentBack_row_tie rfl ⟨rfl, rfl⟩ (by kernel_rfl) rfl plain (by kernel_rfl)
#print axioms card
end Go.Proofs.YtmafefdchglpbaaDoor.documentBackDone
