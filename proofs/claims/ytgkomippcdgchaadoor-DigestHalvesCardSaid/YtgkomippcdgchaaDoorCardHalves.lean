/-
  The statement DigestHalves, whole: Half is the first half of the digest of all parts together, for every argument. The conditions are the row's own: the table of round constants starts as the program's text lays it (the card ties it).
-/
import Derived.Test.YtgkomippcdgchaaDoorCards
import Derived.Test.YtgkomippcdgchaaDoorTie
import Derived.Test.YtgkomippcdgchaaDoorLawHalves
import Derived.Deep.Matrix
import Derived.WalkKit
import Derived.ProofKit
import Derived.OpenShut
import Derived.ShutString
import Derived.ChangeOld
import Derived.Below
import Derived.Deep.DeepHandedRow
import Derived.Lib.LaidTab
namespace Go.Proofs.YtgkomippcdgchaaDoor.digestHalvesDone
open Go.ChangeShapes Go.WideShapes Go.ChangeAt Go.RowKit
open Go.ChangeMaps (open_string shut_string)

theorem own : ownKnob Tryd.prog.godebug = none := by kernel_rfl
theorem laidOut : laidOutB Tryd.prog = true := by kernel_rfl
theorem gTab : Tryd.prog.globalNamed "admission/digest.roundConstants" = some 0 := by kernel_rfl
theorem gTabType : (Tryd.prog.globals[0]?).map (·.type) = some 64 := by kernel_rfl
theorem cells64 : Tryd.prog.cellsOf 64 = 64 := by kernel_rfl
theorem cells48 : Tryd.prog.cellsOf 48 = 1 := by kernel_rfl
theorem table {W : World} (h : laidMetH Tryd.prog Rows.digestHalvesRow.laid W) : Lib.TabIs Tryd.prog W "admission/digest.roundConstants" .u32 kay :=
  Lib.tabIs_of_head (rest := []) gTab gTabType Tryd.underlying64 Tryd.underlying48 cells48 cells64 h
theorem kayIn {W : World} (h : laidMetH Tryd.prog Rows.digestHalvesRow.laid W) : KayIn W := fun i hi => (table h).cell gTab i (by rw [kay_length]; exact hi)
theorem kayLt {W : World} (h : KayIn W) : 0 < W.heap.size := World.block_lt_of_cell? W _ (h 0 (by omega))

theorem parts_of_rows {H : Type} {W : World} {pa : Option Addr} {np ncap : Nat} {x : DataW H × List MemPlace}
    (h : ((Value.slice pa np ncap).cells.toList = [.slice none 0 0] ∧ x = (.nil, [])) ∨
      ∃ (a : Addr) (len cap : Nat) (A : Nat → Option Addr) (L C : Nat → Nat) (Z : Nat → List Int), (Value.slice pa np ncap).cells.toList = [.slice (some a) len cap] ∧ 0 ≤ a.block ∧ len ≤ cap ∧ cap ≤ maxLen ∧
      x = (.slice ((List.range len).map fun r => Go.Deep.intRow .u8 (A r) (L r) (Z r)) ((List.range (cap - len)).map fun j => Go.Deep.intRow .u8 (A (len + j)) (L (len + j)) (Z (len + j))), MemPlace.row a cap ++ (List.range cap).flatMap fun r => Go.Deep.intRowPlaces (A r) (Z r)) ∧
      ∀ r, r < cap → W.cell? (a.add r) = some (.slice (A r) (L r) (C r)) ∧ L r ≤ C r ∧ C r ≤ maxLen ∧ (Z r).length = C r ∧ (∀ n ∈ Z r, (Lit.int .u8 n).wf = true) ∧ (A r = none → C r = 0) ∧
        ∀ a', A r = some a' → 0 ≤ a'.block ∧ ∀ c, c < C r → W.cell? (a'.add c) = some (.int .u8 ((Z r).getD c 0))) :
    ∃ ps, PartsIn W W.heap.size pa np ps ∧ (∀ q ∈ ps, q.sp = none → q.cap = 0) ∧ np ≤ 9223372036854775807 ∧ ∀ q ∈ ps, q.n ≤ 9223372036854775807 := by
  rcases h with ⟨hcs, _⟩ | ⟨a, len, cap, A, L, C, Z, hcs, _, hl, hm, _, hr⟩
  · simp [Value.cells] at hcs
    obtain ⟨rfl, rfl, rfl⟩ := hcs
    exact ⟨[], ⟨rfl, fun h => absurd h (by omega), fun q hq => by cases hq⟩, fun q hq => (by cases hq), by omega, fun q hq => (by cases hq)⟩
  · simp [Value.cells] at hcs
    obtain ⟨rfl, rfl, rfl⟩ := hcs
    unfold maxLen at hm
    refine ⟨(List.range np).map fun r => ⟨A r, L r, C r, (Z r).take (L r)⟩, ⟨by simp, fun hn => ?_, fun q hq => ?_⟩, fun q hq => ?_, by omega, fun q hq => ?_⟩
    · obtain ⟨b, off, spot⟩ := a
      have h0 := (hr 0 (by omega)).1
      have hspot : spot = none := by simpa [Addr.add] using World.cell?_spot h0
      subst hspot
      refine ⟨b, off, rfl, World.block_lt_of_cell? W _ (by simpa [Addr.add] using h0), fun j hj => ?_⟩
      have hj' : j < np := by simpa using hj
      have := (hr j (by omega)).1
      rw [Addr.add_mid] at this
      rw [this]; simp [Part.val]
    · obtain ⟨r, hrn, rfl⟩ := List.mem_map.1 hq
      have hrn' : r < np := by simpa using hrn
      obtain ⟨_, h2, h3, h4, h5, _, h7⟩ := hr r (by omega)
      refine ⟨by show ((Z r).take (L r)).length = L r; rw [List.length_take]; omega, fun x hx => ?_, fun hn => ?_⟩
      · have := bounds_u8 (h5 x (List.mem_of_mem_take hx)); omega
      · have hn' : 0 < L r := hn
        cases hA : A r with
        | none => have := (hr r (by omega)).2.2.2.2.2.1 hA; omega
        | some a' =>
          obtain ⟨b, off, spot⟩ := a'
          obtain ⟨_, hc⟩ := h7 _ hA
          have h0 := hc 0 (by omega)
          have hspot : spot = none := by simpa [Addr.add] using World.cell?_spot h0
          subst hspot
          refine ⟨b, off, rfl, World.block_lt_of_cell? W _ (by simpa [Addr.add] using h0), h2, fun j hj => ?_⟩
          have hj' : j < L r := hj
          have := hc j (by omega)
          rw [Addr.add_mid] at this
          rw [this]; simp [List.getD_eq_getElem?_getD, hj']
    · obtain ⟨r, hrn, rfl⟩ := List.mem_map.1 hq
      have hrn' : r < np := by simpa using hrn
      exact (hr r (by omega)).2.2.2.2.2.1
    · obtain ⟨r, hrn, rfl⟩ := List.mem_map.1 hq
      have hrn' : r < np := by simpa using hrn
      obtain ⟨_, h2, h3, _⟩ := hr r (by omega)
      unfold maxLen at h3
      show L r ≤ _
      omega

theorem contract (H : Type) (enc : TypeId × Value → H) (W : World) (base : Nat) (args : Array Value) (ds gs : List (DataW H)) (before : List MemPlace)
    (hval : ∀ (j : Nat) t v, Tryd.f4.params[j]? = some t → args[j]? = some v → Value.okWide Tryd.prog W .any base t v)
    (hW : DataW.Whole enc Tryd.prog Tryd.f4.params.toList Rows.digestHalvesSpec.vars false W args.toList ds gs before) (hL : laidMetH Tryd.prog Rows.digestHalvesRow.laid W) :
    Calls Tryd.prog 4 args W fun e W' => ∃ v, e = .returned v ∧ Rows.digestHalvesSpec.post enc Tryd.prog Tryd.f4 false true false false W args v W' := by
  have hW' := hW
  obtain ⟨p, q, hA0, hV, rfl, hfz, hnd⟩ := hW
  have hA : DataW.TrodAll enc Tryd.prog W 0 (fun _ => true) true Tryd.f4.params.toList args.toList ds p := hA0
  rw [Tryd.params4] at hA hval
  obtain ⟨v0, vs0, d0, ds0, p0, q0, hargs, rfl, rfl, h0, r0⟩ := trodAll_cons hA
  obtain ⟨rfl, rfl, rfl⟩ := trodAll_nil r0
  obtain rfl : args = #[v0] := by cases args; simp_all
  obtain ⟨rfl, rfl⟩ := trodVars_none hV
  have k0 := h0
  have lt0 : ∀ x ∈ p0, x.block < W.heap.size := by obtain ⟨m, hm⟩ := k0; exact DataW.trod_lt m _ _ _ hm
  obtain ⟨pa, np, ncap, rfl⟩ := okWide_slice Tryd.underlying28 (hval 0 28 v0 rfl rfl)
  obtain ⟨ps, hp, hnil, hnp, hmx⟩ : ∃ ps, PartsIn W W.heap.size pa np ps ∧ (∀ q ∈ ps, q.sp = none → q.cap = 0) ∧ np ≤ 9223372036854775807 ∧ ∀ q ∈ ps, q.n ≤ 9223372036854775807 := by
    obtain ⟨fuel, hf⟩ := h0
    exact parts_of_rows (Go.Deep.open_int_rows Tryd.underlying28 Tryd.underlying22 Tryd.underlying5 (by kernel_rfl) (by kernel_rfl) hf)
  clear hA0
  have hk := kayIn hL
  refine (halves_any pa np ncap ps W hp hnil hk (kayLt hk) hnp hmx).mono fun e W' ⟨he, bel⟩ => ?_
  subst he
  exact ⟨_, rfl, _, _, _, [], _, [], hW', trodAll_mk1 (shut_bool Tryd.underlying4 _), (trodAll_cons_mk (Below.trod laidOut (by kernel_rfl) (of_decide_eq_true (by kernel_rfl)) k0 bel lt0) trodAll_mk0), rfl, bel.frame _, fun h => by cases h⟩

/-- a world for the witness: the settled one, the table holding what its initialiser lays -/
noncomputable def laidWorld (os : Os) : World :=
  { World.holding Tryd.prog os ⟨#[], #[], []⟩ with heap := (World.holding Tryd.prog os ⟨#[], #[], []⟩).heap.modify 0 fun
      | .cells _ t frozen => .cells (kay.map (Value.int .u32)).toArray t frozen
      | o => o }
theorem laid_met (os : Os) : laidMet Tryd.prog Rows.digestHalvesRow.laid ((laidWorld os).forCall (fun _ _ => 0) ⟨#[], #[.slice none 0 0], []⟩).memory :=
  laidMet_of_run' 8 (by kernel_rfl) (by kernel_rfl)
theorem reads (os : Os) {H : Type} (enc : TypeId × Value → H) : ∃ places, DataW.whole enc Tryd.prog ((laidWorld os).forCall (fun _ _ => 0) ⟨#[], #[.slice none 0 0], []⟩).memory Tryd.f4.params.toList Rows.digestHalvesSpec.vars false #[.slice none 0 0].toList 8 = some ([.nil], [], places) :=
  ⟨[], by kernel_rfl⟩

set_option maxRecDepth 100000 in
theorem lifted (os : Os) (started : os.Started) (H : Type) (enc : TypeId × Value → H) (F : Stop.Interp) :
    ReturnsInHanded {} Tryd.checked os 4 .any ((OpenSpec.ofChange Rows.digestHalvesSpec).preRow enc Tryd.prog Tryd.f4 Rows.digestHalvesRow.domain false Rows.digestHalvesRow.laid) (((OpenSpec.ofChange Rows.digestHalvesSpec).at F).post enc Tryd.prog Tryd.f4 false true false false) := by
  obtain ⟨places, hx⟩ := reads os enc
  refine returnsInHanded_of_row (C := Tryd.checked) (s := OpenSpec.ofChange Rows.digestHalvesSpec) own started (by kernel_rfl) Tryd.func4
    (witness_row_at (enc := enc) (C := Tryd.checked) false (laidWorld os) #[.slice none 0 0] rfl (by kernel_rfl) (by kernel_rfl) (by kernel_rfl)
      (OpenSpec.preRow_of_cond 8 hx (by kernel_rfl) (fun k hk => by cases hk) (by kernel_rfl) (laid_met os))) ?_
  intro W base args ds gs before hval hW _ _ _ hL _ _
  exact contract H enc W base args ds gs before hval hW hL

theorem said : Rows.DigestHalvesSaid :=
  OpenClaim.holds_of_cond 4 Tryd.f4 rfl rfl rfl rfl rfl rfl rfl ⟨rfl, rfl, rfl, rfl, rfl⟩ rfl rfl rfl rfl rfl (by kernel_rfl) Tryd.func4 (by kernel_rfl)
    (of_decide_eq_true (by kernel_rfl)) (by unfold Func.isWrapper; first | (rw [if_pos (by decide +kernel)]; kernel_rfl) | (rw [if_neg (by decide +kernel)]; exact ⟨rfl, rfl⟩))
    (fun os started H enc _ F => by rw [OpenClaim.pre_eq_preRow]; exact lifted os started H enc F)

theorem plain (f : FuncId) (fn : Func) (hf : Tryd.pinned.checked.prog.funcNamed "admission/admissionlaw01.DigestHalves" = some f) (hfn : Tryd.pinned.checked.prog.funcs[f]? = some fn) :
    false = Tryd.pinned.checked.prog.looks [] ∧ ∀ (j : Nat) t, fn.params[j]? = some t → Tryd.pinned.checked.prog.wantsStandIn t = false := by
  obtain rfl : f = 4 := Option.some.inj ((show Tryd.prog.funcNamed "admission/admissionlaw01.DigestHalves" = some 4 by kernel_rfl).symm.trans hf) |>.symm
  obtain rfl : fn = Tryd.f4 := (Option.some.inj (Tryd.func4.symm.trans hfn)).symm
  refine ⟨by kernel_rfl, fun j t ht => ?_⟩
  rw [Tryd.params4] at ht
  obtain rfl : t = 28 := by simpa using Array.mem_of_getElem? ht
  exact (show Tryd.prog.wantsStandIn 28 = false by kernel_rfl)

/-- THE CARD -/
theorem card : Rows.DigestHalvesCardSaid :=
  Claim7.holds_tied_plain_at .later [] _ _ _ _ said (fun _ h => by cases h) (by kernel_rfl) (fun _ h => by cases h) digestHalves_row_tie rfl ⟨rfl, rfl⟩ (by kernel_rfl) rfl plain (by kernel_rfl)
#print axioms card
end Go.Proofs.YtgkomippcdgchaaDoor.digestHalvesDone
