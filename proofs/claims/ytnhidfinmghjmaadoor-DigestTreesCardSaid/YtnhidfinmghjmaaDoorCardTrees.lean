/-
  The statement DigestTrees, whole: the root of every list is that of the reference, for every argument. The conditions are the row's own: the table of round constants starts as the program's text lays it (the card ties it).
-/
import Derived.Test.YtnhidfinmghjmaaDoorCards
import Derived.Test.YtnhidfinmghjmaaDoorTie
import Derived.Test.YtnhidfinmghjmaaDoorLawTrees
import Derived.Deep.Slices
import Derived.WalkKit
import Derived.ProofKit
import Derived.OpenShut
import Derived.ShutString
import Derived.ChangeOld
import Derived.Below
import Derived.Deep.DeepHandedRow
import Derived.Lib.LaidTab
namespace Go.Proofs.YtnhidfinmghjmaaDoor.digestTreesDone
open Go.ChangeShapes Go.WideShapes Go.ChangeAt Go.RowKit
open Go.ChangeMaps (open_string shut_string)

theorem own : ownKnob Tryd.prog.godebug = none := by kernel_rfl
theorem laidOut : laidOutB Tryd.prog = true := by kernel_rfl
theorem gTab : Tryd.prog.globalNamed "admission/digest.roundConstants" = some 0 := by kernel_rfl
theorem gTabType : (Tryd.prog.globals[0]?).map (·.type) = some 62 := by kernel_rfl
theorem cells64 : Tryd.prog.cellsOf 62 = 64 := by kernel_rfl
theorem cells48 : Tryd.prog.cellsOf 45 = 1 := by kernel_rfl
theorem table {W : World} (h : laidMetH Tryd.prog Rows.digestTreesRow.laid W) : Lib.TabIs Tryd.prog W "admission/digest.roundConstants" .u32 kay :=
  Lib.tabIs_of_head (rest := []) gTab gTabType Tryd.underlying62 Tryd.underlying45 cells48 cells64 h
theorem kayIn {W : World} (h : laidMetH Tryd.prog Rows.digestTreesRow.laid W) : KayIn W := fun i hi => (table h).cell gTab i (by rw [kay_length]; exact hi)
theorem kayLt {W : World} (h : KayIn W) : 0 < W.heap.size := World.block_lt_of_cell? W _ (h 0 (by omega))

theorem digest_cells {H : Type} {enc : TypeId × Value → H} {W : World} {base fuel : Nat} {spare : Nat → Bool} {held : Bool} {cs : List Value} {x : DataW H × List MemPlace}
    (h : DataW.trod enc Tryd.prog W base spare held fuel 25 cs = some x) : ∃ L : List Int, cs = L.map (Value.int .u8) ∧ L.length = 32 ∧ Byt L := by
  have c5 : Tryd.prog.cellsOf 5 = 1 := by kernel_rfl
  have c25 : Tryd.prog.cellsOf 25 = 32 := by kernel_rfl
  obtain ⟨xs, m, _, _, hl, hx, hall⟩ := DataW.trod_array Tryd.underlying25 h
  rw [c25] at hl
  rw [c5] at hall
  have each : ∀ i, (hi : i < cs.length) → cs[i] = .int .u8 (intOf cs[i]) ∧ 0 ≤ intOf cs[i] ∧ intOf cs[i] < 256 := by
    intro i hi
    have h1 := hall i (by omega)
    rw [List.getElem?_eq_getElem (by omega)] at h1
    have e1 : (cs.drop (i * 1)).take 1 = [cs[i]] := by
      rw [Nat.mul_one, List.drop_eq_getElem_cons hi, List.take_succ_cons, List.take_zero]
    rw [e1] at h1
    obtain ⟨n, e0, _, wn⟩ := DataW.trod_int Tryd.underlying5 h1
    have hn := bounds_u8 wn
    have e2 : cs[i] = .int .u8 n := by simpa using e0
    rw [e2]
    exact ⟨rfl, by simpa [intOf] using hn.1, by simp [intOf]; omega⟩
  refine ⟨cs.map intOf, ?_, by simp [hl], fun y hy => ?_⟩
  · apply List.ext_getElem
    · simp
    · intro i h1 h2
      simp only [List.getElem_map]
      exact (each i h1).1
  · obtain ⟨v, hv, rfl⟩ := List.mem_map.1 hy
    obtain ⟨i, hi, rfl⟩ := List.getElem_of_mem hv
    exact (each i hi).2

theorem digs_of_slice {H : Type} {enc : TypeId × Value → H} {W : World} {fuel : Nat} {held : Bool} {da : Option Addr} {n cap : Nat} {x : DataW H × List MemPlace}
    (h : DataW.trod enc Tryd.prog W 0 (fun _ => true) held fuel 30 (Value.slice da n cap).cells.toList = some x) : ∃ l, DigsIn W W.heap.size da n cap l ∧ n ≤ 9223372036854775807 := by
  have c25 : Tryd.prog.cellsOf 25 = 32 := by kernel_rfl
  rcases Go.Deep.open_slice Tryd.underlying30 h with ⟨hcs, _⟩ | ⟨a, len, cap', m, k, D, Pl, hcs, _, hl, hm, hmm, _, hr⟩
  · simp [Value.cells] at hcs
    obtain ⟨rfl, rfl, rfl⟩ := hcs
    exact ⟨[], ⟨rfl, fun y hy => (by cases hy), fun h => absurd h (by omega)⟩, by omega⟩
  · simp [Value.cells] at hcs
    obtain ⟨rfl, rfl, rfl⟩ := hcs
    simp only [if_true] at hmm
    subst hmm
    unfold maxLen at hm
    rw [c25] at hr
    have each : ∀ i, i < m → ∃ L : List Int, (L.length = 32 ∧ Byt L) ∧ ∀ j, j < 32 → W.cell? ((a.add (i * 32)).add j) = some (.int .u8 (L.getD j 0)) := by
      intro i hi
      obtain ⟨cs', h1, h2⟩ := hr i hi
      obtain ⟨L, rfl, hL, hB⟩ := digest_cells h2
      obtain ⟨_, _, hc⟩ := World.cells?_some h1
      exact ⟨L, ⟨hL, hB⟩, fun j hj => by rw [hc j (by omega)]; exact getD_map _ _ _ 0 (by omega)⟩
    obtain ⟨f, hf⟩ := Go.Deep.choose_lt each
    refine ⟨(List.range n).map f, ⟨by simp, fun y hy => ?_, fun hn => ?_⟩, by omega⟩
    · obtain ⟨i, hi, rfl⟩ := List.mem_map.1 hy
      exact (hf i (by have : i < n := by simpa using hi
                      omega)).1
    · obtain ⟨b, off, spot⟩ := a
      have h0 := (hf 0 (by omega)).2 0 (by omega)
      have hspot : spot = none := by simpa [Addr.add] using World.cell?_spot h0
      subst hspot
      refine ⟨b, off, rfl, World.block_lt_of_cell? W _ (by simpa [Addr.add] using h0), hl, fun i hi j v hv => ?_⟩
      have h1 := hf i (by omega)
      have e : ((List.range n).map f).getD i [] = f i := by simp [List.getD_eq_getElem?_getD, hi]
      rw [e] at hv
      have hj : j < 32 := by have := (List.getElem?_eq_some_iff.1 hv).1; simpa [h1.1.1] using this
      have h2 := h1.2 j hj
      rw [Addr.add_mid, Addr.add_mid] at h2
      rw [getD_map _ _ _ 0 (by omega)] at hv
      rw [h2]; exact hv

theorem contract (H : Type) (enc : TypeId × Value → H) (W : World) (base : Nat) (args : Array Value) (ds gs : List (DataW H)) (before : List MemPlace)
    (hval : ∀ (j : Nat) t v, Tryd.f5.params[j]? = some t → args[j]? = some v → Value.okWide Tryd.prog W .any base t v)
    (hW : DataW.Whole enc Tryd.prog Tryd.f5.params.toList Rows.digestTreesSpec.vars false W args.toList ds gs before) (hL : laidMetH Tryd.prog Rows.digestTreesRow.laid W) :
    Calls Tryd.prog 5 args W fun e W' => ∃ v, e = .returned v ∧ Rows.digestTreesSpec.post enc Tryd.prog Tryd.f5 false true false false W args v W' := by
  have hW' := hW
  obtain ⟨p, q, hA0, hV, rfl, hfz, hnd⟩ := hW
  have hA : DataW.TrodAll enc Tryd.prog W 0 (fun _ => true) true Tryd.f5.params.toList args.toList ds p := hA0
  rw [Tryd.params5] at hA hval
  obtain ⟨v0, vs0, d0, ds0, p0, q0, hargs, rfl, rfl, h0, r0⟩ := trodAll_cons hA
  obtain ⟨rfl, rfl, rfl⟩ := trodAll_nil r0
  obtain rfl : args = #[v0] := by cases args; simp_all
  obtain ⟨rfl, rfl⟩ := trodVars_none hV
  have k0 := h0
  have lt0 : ∀ x ∈ p0, x.block < W.heap.size := by obtain ⟨m, hm⟩ := k0; exact DataW.trod_lt m _ _ _ hm
  obtain ⟨da, dn, dcap, rfl⟩ := okWide_slice Tryd.underlying30 (hval 0 30 v0 rfl rfl)
  obtain ⟨l, hl, _⟩ : ∃ l, DigsIn W W.heap.size da dn dcap l ∧ dn ≤ 9223372036854775807 := by
    obtain ⟨fuel, hf⟩ := h0
    exact digs_of_slice hf
  clear hA0
  have hk := kayIn hL
  refine (trees_any da dn dcap l W hl hk (kayLt hk)).mono fun e W' ⟨he, bel⟩ => ?_
  subst he
  exact ⟨_, rfl, _, _, _, [], _, [], hW', trodAll_mk1 (shut_bool Tryd.underlying4 _), (trodAll_cons_mk (Below.trod laidOut (by kernel_rfl) (of_decide_eq_true (by kernel_rfl)) k0 bel lt0) trodAll_mk0), rfl, bel.frame _, fun h => by cases h⟩

/-- a world for the witness: the settled one, the table holding what its initialiser lays -/
noncomputable def laidWorld (os : Os) : World :=
  { World.holding Tryd.prog os ⟨#[], #[], []⟩ with heap := (World.holding Tryd.prog os ⟨#[], #[], []⟩).heap.modify 0 fun
      | .cells _ t frozen => .cells (kay.map (Value.int .u32)).toArray t frozen
      | o => o }
theorem laid_met (os : Os) : laidMet Tryd.prog Rows.digestTreesRow.laid ((laidWorld os).forCall (fun _ _ => 0) ⟨#[], #[.slice none 0 0], []⟩).memory :=
  laidMet_of_run' 8 (by kernel_rfl) (by kernel_rfl)
theorem reads (os : Os) {H : Type} (enc : TypeId × Value → H) : ∃ places, DataW.whole enc Tryd.prog ((laidWorld os).forCall (fun _ _ => 0) ⟨#[], #[.slice none 0 0], []⟩).memory Tryd.f5.params.toList Rows.digestTreesSpec.vars false #[.slice none 0 0].toList 8 = some ([.nil], [], places) :=
  ⟨[], by kernel_rfl⟩

set_option maxRecDepth 100000 in
theorem lifted (os : Os) (started : os.Started) (H : Type) (enc : TypeId × Value → H) (F : Stop.Interp) :
    ReturnsInHanded {} Tryd.checked os 5 .any ((OpenSpec.ofChange Rows.digestTreesSpec).preRow enc Tryd.prog Tryd.f5 Rows.digestTreesRow.domain false Rows.digestTreesRow.laid) (((OpenSpec.ofChange Rows.digestTreesSpec).at F).post enc Tryd.prog Tryd.f5 false true false false) := by
  obtain ⟨places, hx⟩ := reads os enc
  refine returnsInHanded_of_row (C := Tryd.checked) (s := OpenSpec.ofChange Rows.digestTreesSpec) own started (by kernel_rfl) Tryd.func5
    (witness_row_at (enc := enc) (C := Tryd.checked) false (laidWorld os) #[.slice none 0 0] rfl (by kernel_rfl) (by kernel_rfl) (by kernel_rfl)
      (OpenSpec.preRow_of_cond 8 hx (by kernel_rfl) (fun k hk => by cases hk) (by kernel_rfl) (laid_met os))) ?_
  intro W base args ds gs before hval hW _ _ _ hL _ _
  exact contract H enc W base args ds gs before hval hW hL

theorem said : Rows.DigestTreesSaid :=
  OpenClaim.holds_of_cond 5 Tryd.f5 rfl rfl rfl rfl rfl rfl rfl ⟨rfl, rfl, rfl, rfl, rfl⟩ rfl rfl rfl rfl rfl (by kernel_rfl) Tryd.func5 (by kernel_rfl)
    (of_decide_eq_true (by kernel_rfl)) (by unfold Func.isWrapper; first | (rw [if_pos (by decide +kernel)]; kernel_rfl) | (rw [if_neg (by decide +kernel)]; exact ⟨rfl, rfl⟩))
    (fun os started H enc _ F => by rw [OpenClaim.pre_eq_preRow]; exact lifted os started H enc F)

theorem plain (f : FuncId) (fn : Func) (hf : Tryd.pinned.checked.prog.funcNamed "admission/admissionlaw01.DigestTrees" = some f) (hfn : Tryd.pinned.checked.prog.funcs[f]? = some fn) :
    false = Tryd.pinned.checked.prog.looks [] ∧ ∀ (j : Nat) t, fn.params[j]? = some t → Tryd.pinned.checked.prog.wantsStandIn t = false := by
  obtain rfl : f = 5 := Option.some.inj ((show Tryd.prog.funcNamed "admission/admissionlaw01.DigestTrees" = some 5 by kernel_rfl).symm.trans hf) |>.symm
  obtain rfl : fn = Tryd.f5 := (Option.some.inj (Tryd.func5.symm.trans hfn)).symm
  refine ⟨by kernel_rfl, fun j t ht => ?_⟩
  rw [Tryd.params5] at ht
  obtain rfl : t = 30 := by simpa using Array.mem_of_getElem? ht
  exact (show Tryd.prog.wantsStandIn 30 = false by kernel_rfl)

/-- THE CARD -/
theorem card : Rows.DigestTreesCardSaid :=
  Claim7.holds_tied_plain_at .later [] _ _ _ _ said (fun _ h => by cases h) (by kernel_rfl) (fun _ h => by cases h) digestTrees_row_tie rfl ⟨rfl, rfl⟩ (by kernel_rfl) rfl plain (by kernel_rfl)
#print axioms card
end Go.Proofs.YtnhidfinmghjmaaDoor.digestTreesDone
