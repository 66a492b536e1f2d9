/-
  The statement KeytreeSpoils, whole: whether a signature still verifies after one of its parts was changed is what the reference says, for all arguments. The conditions are the row's own: the table of round constants starts as the program's text lays it (the card ties it).
-/
import Derived.Test.YtbfgkbcpkldofaaDoorCards
import Derived.Test.YtbfgkbcpkldofaaDoorTie
import Derived.Test.YtbfgkbcpkldofaaDoorLawKSp
import Derived.Test.YtbfgkbcpkldofaaDoorArgU
import Derived.WalkKit
import Derived.ProofKit
import Derived.OpenShut
import Derived.ShutString
import Derived.ChangeOld
import Derived.Below
import Derived.Deep.DeepHandedRow
import Derived.Lib.LaidTab
import Derived.Stop.LaidErr
namespace Go.Proofs.YtbfgkbcpkldofaaDoor.keytreeSpoilsDone
open Go.ChangeShapes Go.WideShapes Go.ChangeAt Go.RowKit
open Go.ChangeMaps (open_string shut_string)

theorem own : ownKnob Tryd.prog.godebug = none := by kernel_rfl
theorem laidOut : laidOutB Tryd.prog = true := by kernel_rfl
theorem gTab : Tryd.prog.globalNamed "admission/digest.roundConstants" = some 1 := by kernel_rfl
theorem gTabType : (Tryd.prog.globals[1]?).map (·.type) = some 148 := by kernel_rfl
theorem cells64 : Tryd.prog.cellsOf 148 = 64 := by kernel_rfl
theorem cells48 : Tryd.prog.cellsOf 121 = 1 := by kernel_rfl
theorem kayData : (Rows.laid_admission_digest_roundConstants : DataW Unit) = Lib.tabData .u32 kay := by kernel_rfl
theorem table {W : World} (h : laidMetH Tryd.prog Rows.keytreeSpoilsRow.laid W) : Lib.TabIs Tryd.prog W "admission/digest.roundConstants" .u32 kay := by
  have h2 : laidMet Tryd.prog [("admission/digest.roundConstants", (Rows.laid_admission_digest_roundConstants : DataW Unit))] W := h
  rw [kayData] at h2
  exact Lib.tabIs_of_head gTab gTabType Tryd.underlying148 Tryd.underlying121 cells48 cells64 h2
theorem kayIn {W : World} (h : laidMetH Tryd.prog Rows.keytreeSpoilsRow.laid W) : KayIn W := fun i hi => (table h).cell gTab i (by rw [kay_length]; exact hi)
theorem kayLt {W : World} (h : KayIn W) : 1 < W.heap.size := World.block_lt_of_cell? W _ (h 0 (by omega))
set_option maxRecDepth 100000 in
theorem contract (H : Type) (enc : TypeId × Value → H) (W : World) (base : Nat) (args : Array Value) (ds gs : List (DataW H)) (before : List MemPlace)
    (hval : ∀ (j : Nat) t v, Tryd.f3.params[j]? = some t → args[j]? = some v → Value.okWide Tryd.prog W .any base t v)
    (hW : DataW.Whole enc Tryd.prog Tryd.f3.params.toList Rows.keytreeSpoilsSpec.vars false W args.toList ds gs before) (hL : laidMetH Tryd.prog Rows.keytreeSpoilsRow.laid W) :
    Calls Tryd.prog 3 args W fun e W' => ∃ v, e = .returned v ∧ Rows.keytreeSpoilsSpec.post enc Tryd.prog Tryd.f3 false true false false W args v W' := by
  have hW' := hW
  obtain ⟨p, q, hA0, hV, rfl, hfz, hnd⟩ := hW
  have hA : DataW.TrodAll enc Tryd.prog W 0 (fun _ => true) true Tryd.f3.params.toList args.toList ds p := hA0
  rw [Tryd.params3] at hA hval
  obtain ⟨v0, vs0, d0, ds0, p0, q0, hargs, rfl, rfl, h0, r0⟩ := trodAll_cons hA
  obtain ⟨v1, vs1, d1, ds1, p1, q1, rfl, rfl, rfl, h1, r1⟩ := trodAll_cons r0
  obtain ⟨v2, vs2, d2, ds2, p2, q2, rfl, rfl, rfl, h2, r2⟩ := trodAll_cons r1
  obtain ⟨rfl, rfl, rfl⟩ := trodAll_nil r2
  obtain rfl : args = #[v0, v1, v2] := by cases args; simp_all
  obtain ⟨rfl, rfl⟩ := trodVars_none hV
  have k0 := h0
  have lt0 : ∀ x ∈ p0, x.block < W.heap.size := by obtain ⟨m, hm⟩ := k0; exact DataW.trod_lt m _ _ _ hm
  have k1 := h1
  have lt1 : ∀ x ∈ p1, x.block < W.heap.size := by obtain ⟨m, hm⟩ := k1; exact DataW.trod_lt m _ _ _ hm
  have k2 := h2
  have lt2 : ∀ x ∈ p2, x.block < W.heap.size := by obtain ⟨m, hm⟩ := k2; exact DataW.trod_lt m _ _ _ hm
  obtain ⟨cs0, rfl⟩ := okWide_arr Tryd.underlying23 (hval 0 23 v0 rfl rfl)
  obtain ⟨l0, rfl, hl0⟩ : ∃ L : List Int, cs0 = hvA L ∧ H16 L := by
    obtain ⟨fuel, hf⟩ := h0
    exact hfArg_of hf
  obtain ⟨cs1, rfl⟩ := okWide_arr Tryd.underlying25 (hval 1 25 v1 rfl rfl)
  obtain ⟨l1, rfl, hl1⟩ : ∃ L : List Int, cs1 = dgA L ∧ D32 L := by
    obtain ⟨fuel, hf⟩ := h1
    exact dgArg_of hf
  obtain ⟨cs2, rfl⟩ := okWide_cg (hval 2 27 v2 rfl rfl)
  obtain ⟨a2, b2, c2, rfl⟩ : ∃ p i b : Int, cs2 = cgA p i b := by
    obtain ⟨fuel, hf⟩ := h2
    exact cgArg_of hf
  clear hA0
  have hk := kayIn hL
  refine (keytreeSpoils_any l0 l1 a2 b2 c2 W hl0 hl1  hk (kayLt hk)).mono fun e W' ⟨he, bel⟩ => ?_
  subst he
  exact ⟨_, rfl, _, _, _, [], _, [], hW', trodAll_mk1 (shut_bool Tryd.underlying4 _), (trodAll_cons_mk (Below.trod laidOut (by kernel_rfl) (of_decide_eq_true (by kernel_rfl)) k0 bel lt0) (trodAll_cons_mk (Below.trod laidOut (by kernel_rfl) (of_decide_eq_true (by kernel_rfl)) k1 bel lt1) (trodAll_cons_mk (Below.trod laidOut (by kernel_rfl) (of_decide_eq_true (by kernel_rfl)) k2 bel lt2) trodAll_mk0))), rfl, bel.frame _, fun h => by cases h⟩

/-- a world for the witness: the settled one, the tables holding what their texts lay -/
def acc : List Int := [128, 191, 160, 191, 128, 159, 144, 191, 128, 143] ++ List.replicate 22 0
def layCells (k : IntKind) (vs : List Int) : Obj → Obj
  | .cells _ t frozen => .cells (vs.map (Value.int k)).toArray t frozen
  | o => o
noncomputable def laidWorld (os : Os) : World :=
  { World.holding Tryd.prog os ⟨#[], #[], []⟩ with heap := ((World.holding Tryd.prog os ⟨#[], #[], []⟩).heap).modify 1 (layCells .u32 kay) }
theorem laid_met (os : Os) : laidMet Tryd.prog Rows.keytreeSpoilsRow.laid ((laidWorld os).forCall (fun _ _ => 0) ⟨#[], #[.agg (Array.replicate 16 (Value.int .u8 0)), .agg (Array.replicate 32 (Value.int .u8 0)), .agg #[.int .i64 0, .int .i64 0, .int .u8 0]], []⟩).memory :=
  laidMet_of_run' 8 (by kernel_rfl) (by kernel_rfl)
theorem reads (os : Os) {H : Type} (enc : TypeId × Value → H) : ∃ places, DataW.whole enc Tryd.prog ((laidWorld os).forCall (fun _ _ => 0) ⟨#[], #[.agg (Array.replicate 16 (Value.int .u8 0)), .agg (Array.replicate 32 (Value.int .u8 0)), .agg #[.int .i64 0, .int .i64 0, .int .u8 0]], []⟩).memory Tryd.f3.params.toList Rows.keytreeSpoilsSpec.vars false #[.agg (Array.replicate 16 (Value.int .u8 0)), .agg (Array.replicate 32 (Value.int .u8 0)), .agg #[.int .i64 0, .int .i64 0, .int .u8 0]].toList 8 = some ([.agg (List.replicate 16 (.lit (.int .u8 0))), .agg (List.replicate 32 (.lit (.int .u8 0))), .agg [.lit (.int .i64 0), .lit (.int .i64 0), .lit (.int .u8 0)]], [], places) :=
  ⟨[], by kernel_rfl⟩

set_option maxRecDepth 100000 in
theorem lifted (os : Os) (started : os.Started) (H : Type) (enc : TypeId × Value → H) (F : Stop.Interp) :
    ReturnsInHanded {} Tryd.checked os 3 .any ((OpenSpec.ofChange Rows.keytreeSpoilsSpec).preRow enc Tryd.prog Tryd.f3 Rows.keytreeSpoilsRow.domain false Rows.keytreeSpoilsRow.laid) (((OpenSpec.ofChange Rows.keytreeSpoilsSpec).at F).post enc Tryd.prog Tryd.f3 false true false false) := by
  obtain ⟨places, hx⟩ := reads os enc
  refine returnsInHanded_of_row (C := Tryd.checked) (s := OpenSpec.ofChange Rows.keytreeSpoilsSpec) own started (by kernel_rfl) Tryd.func3
    (witness_row_at (enc := enc) (C := Tryd.checked) false (laidWorld os) #[.agg (Array.replicate 16 (Value.int .u8 0)), .agg (Array.replicate 32 (Value.int .u8 0)), .agg #[.int .i64 0, .int .i64 0, .int .u8 0]] rfl (by kernel_rfl) (by kernel_rfl) (by kernel_rfl)
      (OpenSpec.preRow_of_cond 8 hx (by kernel_rfl) (fun k hk => by cases hk) (by kernel_rfl) (laid_met os))) ?_
  intro W base args ds gs before hval hW _ _ _ hL _ _
  exact contract H enc W base args ds gs before hval hW hL

theorem said : Rows.KeytreeSpoilsSaid :=
  OpenClaim.holds_of_cond 3 Tryd.f3 rfl rfl rfl rfl rfl rfl rfl ⟨rfl, rfl, rfl, rfl, rfl⟩ rfl rfl rfl rfl rfl (by kernel_rfl) Tryd.func3 (by kernel_rfl)
    (of_decide_eq_true (by kernel_rfl)) (by unfold Func.isWrapper; first | (rw [if_pos (by decide +kernel)]; kernel_rfl) | (rw [if_neg (by decide +kernel)]; exact ⟨rfl, rfl⟩))
    (fun os started H enc _ F => by rw [OpenClaim.pre_eq_preRow]; exact lifted os started H enc F)

theorem plain (f : FuncId) (fn : Func) (hf : Tryd.pinned.checked.prog.funcNamed "admission/admissionlaw09.KeytreeSpoils" = some f) (hfn : Tryd.pinned.checked.prog.funcs[f]? = some fn) :
    false = Tryd.pinned.checked.prog.looks [] ∧ ∀ (j : Nat) t, fn.params[j]? = some t → Tryd.pinned.checked.prog.wantsStandIn t = false := by
  obtain rfl : f = 3 := Option.some.inj ((show Tryd.prog.funcNamed "admission/admissionlaw09.KeytreeSpoils" = some 3 by kernel_rfl).symm.trans hf) |>.symm
  obtain rfl : fn = Tryd.f3 := (Option.some.inj (Tryd.func3.symm.trans hfn)).symm
  refine ⟨by kernel_rfl, fun j t ht => ?_⟩
  rw [Tryd.params3] at ht
  have hm := Array.mem_of_getElem? ht
  have : t = 23 ∨ t = 25 ∨ t = 27 := by simpa using hm
  rcases this with rfl | rfl | rfl
  · exact (show Tryd.prog.wantsStandIn 23 = false by kernel_rfl)
  · exact (show Tryd.prog.wantsStandIn 25 = false by kernel_rfl)
  · exact (show Tryd.prog.wantsStandIn 27 = false by kernel_rfl)

/-- THE CARD -/
theorem card : Rows.KeytreeSpoilsCardSaid :=
  Claim7.holds_tied_plain_at .later [] _ _ _ _ said (fun _ h => by cases h) (by kernel_rfl) (fun _ h => by cases h) keytreeSpoils_row_tie rfl ⟨rfl, rfl⟩ (by kernel_rfl) rfl plain (by kernel_rfl)
#print axioms card
end Go.Proofs.YtbfgkbcpkldofaaDoor.keytreeSpoilsDone
