/-
  The statement EnvelopeUnites, whole: the signers of joined envelopes are those of both, in either order, for all arguments. The conditions are the row's own: the table of round constants starts as the program's text lays it (the card ties it).
-/
import Derived.Test.YtcligodahogpkaaGreatDoorCards
import Derived.Test.YtcligodahogpkaaGreatDoorTie
import Derived.Test.YtcligodahogpkaaGreatDoorLawEUn
import Derived.Test.YtcligodahogpkaaGreatDoorJ2
import Derived.Deep.DeepHandedRow
import Derived.Lib.LaidTab
import Derived.Stop.LaidErr
set_option maxRecDepth 100000
set_option maxHeartbeats 8000000
namespace Go.Proofs.YtcligodahogpkaaGreatDoor.envelopeUnitesDone
open Go.ChangeShapes Go.WideShapes Go.ChangeAt Go.RowKit
open Go.ChangeMaps (open_string shut_string)
theorem own : ownKnob Tryz.prog.godebug = none := by kernel_rfl
theorem laidOut : laidOutB Tryz.prog = true := by kernel_rfl
theorem gTab : Tryz.prog.globalNamed "admission/digest.roundConstants" = some 1 := by kernel_rfl
theorem gTabType : (Tryz.prog.globals[1]?).map (·.type) = some 167 := by kernel_rfl
theorem cells64 : Tryz.prog.cellsOf 167 = 64 := by kernel_rfl
theorem cells48 : Tryz.prog.cellsOf 137 = 1 := by kernel_rfl
theorem kayData : (Rows.laid_admission_digest_roundConstants : DataW Unit) = Lib.tabData .u32 kay := by kernel_rfl
theorem table {W : World} (h : laidMetH Tryz.prog Rows.envelopeUnitesRow.laid W) : Lib.TabIs Tryz.prog W "admission/digest.roundConstants" .u32 kay := by
 have h2 : laidMet Tryz.prog [("admission/digest.roundConstants", (Rows.laid_admission_digest_roundConstants : DataW Unit))] W := h
 rw [kayData] at h2
 exact Lib.tabIs_of_head gTab gTabType Tryz.underlying167 Tryz.underlying137 cells48 cells64 h2
theorem kayIn {W : World} (h : laidMetH Tryz.prog Rows.envelopeUnitesRow.laid W) : KayIn W := fun i hi => (table h).cell gTab i (by rw [kC]; exact hi)
theorem kayLt {W : World} (h : KayIn W) : 1 < W.heap.size := World.block_lt_of_cell? W _ (h 0 (by omega))
theorem contract (H : Type) (enc : TypeId × Value → H) (W : World) (base : Nat) (args : Array Value) (ds gs : List (DataW H)) (before : List MemPlace)
 (hval : ∀ (j : Nat) t v, Tryz.f4.params[j]? = some t → args[j]? = some v → Value.okWide Tryz.prog W .any base t v)
 (hW : DataW.Whole enc Tryz.prog Tryz.f4.params.toList Rows.envelopeUnitesSpec.vars false W args.toList ds gs before) (hL : laidMetH Tryz.prog Rows.envelopeUnitesRow.laid W) :
 Calls Tryz.prog 4 args W fun e W' => ∃ v, e = .returned v ∧ Rows.envelopeUnitesSpec.post enc Tryz.prog Tryz.f4 false true false false W args v W' := by
 have hW' := hW
 obtain ⟨p, q, hA0, hV, rfl, hfz, hnd⟩ := hW
 have hA : DataW.TrodAll enc Tryz.prog W 0 (fun _ => true) true Tryz.f4.params.toList args.toList ds p := hA0
 rw [Tryz.params4] at hA hval
 obtain ⟨v0, vs0, d0, ds0, p0, q0, hargs, rfl, rfl, h0, r0⟩ := trodAll_cons hA
 obtain ⟨v1, vs1, d1, ds1, p1, q1, rfl, rfl, rfl, h1, r1⟩ := trodAll_cons r0
 obtain ⟨rfl, rfl, rfl⟩ := trodAll_nil r1
 obtain rfl : args = #[v0, v1] := by cases args; simp_all
 obtain ⟨rfl, rfl⟩ := trodVars_none hV
 have k0 := h0
 have lt0 : ∀ x ∈ p0, x.block < W.heap.size := by obtain ⟨m, hm⟩ := k0; exact DataW.trod_lt m _ _ _ hm
 have k1 := h1
 have lt1 : ∀ x ∈ p1, x.block < W.heap.size := by obtain ⟨m, hm⟩ := k1; exact DataW.trod_lt m _ _ _ hm
 obtain ⟨cs0, rfl⟩ := tQ (hval 0 27 v0 rfl rfl)
 obtain ⟨sp0, n0, c0, b0, sc0, nc0, cc0, sn0, kk0, yy0, rfl, hp0, hpn0, hnc0, hs0, hy0⟩ := (show ∃ (sp : Option Addr) (n cap : Nat) (b : List UInt8) (sc : Option Addr) (nc cc : Nat) (sn : List UInt8) (kk yy : Int), cs0 = caA (.slice sp n cap) (.slice sc nc cc) kk yy ∧ BSrc W W.heap.size sp n cap b ∧ (sp = none → cap = 0) ∧ n ≤ cap ∧ BSrc W W.heap.size sc nc cc sn ∧ (0 ≤ yy ∧ yy < 256) from by
  obtain ⟨fuel, hf⟩ := h0
  exact yJ hf)
 obtain ⟨cs1, rfl⟩ := tQ (hval 1 27 v1 rfl rfl)
 obtain ⟨sp1, n1, c1, b1, sc1, nc1, cc1, sn1, kk1, yy1, rfl, hp1, hpn1, hnc1, hs1, hy1⟩ := (show ∃ (sp : Option Addr) (n cap : Nat) (b : List UInt8) (sc : Option Addr) (nc cc : Nat) (sn : List UInt8) (kk yy : Int), cs1 = caA (.slice sp n cap) (.slice sc nc cc) kk yy ∧ BSrc W W.heap.size sp n cap b ∧ (sp = none → cap = 0) ∧ n ≤ cap ∧ BSrc W W.heap.size sc nc cc sn ∧ (0 ≤ yy ∧ yy < 256) from by
  obtain ⟨fuel, hf⟩ := h1
  exact yJ hf)
 clear hA0
 have hk := kayIn hL
 refine (lS sp0 n0 c0 b0 sc0 nc0 cc0 sn0 kk0 yy0 sp1 n1 c1 b1 sc1 nc1 cc1 sn1 kk1 yy1 W hp0 hpn0 hnc0 hs0 hy0 hp1 hpn1 hnc1 hs1 hy1 hk (kayLt hk)).mono fun e W' ⟨he, bel⟩ => ?_
 subst he
 exact ⟨_, rfl, _, _, _, [], _, [], hW', trodAll_mk1 (shut_bool Tryz.underlying4 _), (trodAll_cons_mk (Below.trod laidOut (by kernel_rfl) (of_decide_eq_true (by kernel_rfl)) k0 bel lt0) (trodAll_cons_mk (Below.trod laidOut (by kernel_rfl) (of_decide_eq_true (by kernel_rfl)) k1 bel lt1) trodAll_mk0)), rfl, bel.frame _, fun h => by cases h⟩
def acc : List Int := [128, 191, 160, 191, 128, 159, 144, 191, 128, 143] ++ List.replicate 22 0
def layCells (k : IntKind) (vs : List Int) : Obj → Obj
 | .cells _ t frozen => .cells (vs.map (Value.int k)).toArray t frozen
 | o => o
noncomputable def laidWorld (os : Os) : World :=
 { World.holding Tryz.prog os ⟨#[], #[], []⟩ with heap := ((World.holding Tryz.prog os ⟨#[], #[], []⟩).heap).modify 1 (layCells .u32 kay) }
theorem laid_met (os : Os) : laidMet Tryz.prog Rows.envelopeUnitesRow.laid ((laidWorld os).forCall (fun _ _ => 0) ⟨#[], #[.agg #[.slice none 0 0, .slice none 0 0, .int .i64 0, .int .u8 0], .agg #[.slice none 0 0, .slice none 0 0, .int .i64 0, .int .u8 0]], []⟩).memory :=
 laidMet_of_run' 8 (by kernel_rfl) (by kernel_rfl)
theorem reads (os : Os) {H : Type} (enc : TypeId × Value → H) : ∃ places, DataW.whole enc Tryz.prog ((laidWorld os).forCall (fun _ _ => 0) ⟨#[], #[.agg #[.slice none 0 0, .slice none 0 0, .int .i64 0, .int .u8 0], .agg #[.slice none 0 0, .slice none 0 0, .int .i64 0, .int .u8 0]], []⟩).memory Tryz.f4.params.toList Rows.envelopeUnitesSpec.vars false #[.agg #[.slice none 0 0, .slice none 0 0, .int .i64 0, .int .u8 0], .agg #[.slice none 0 0, .slice none 0 0, .int .i64 0, .int .u8 0]].toList 8 = some ([.agg [.nil, .nil, .lit (.int .i64 0), .lit (.int .u8 0)], .agg [.nil, .nil, .lit (.int .i64 0), .lit (.int .u8 0)]], [], places) :=
 ⟨[], by kernel_rfl⟩
theorem lifted (os : Os) (started : os.Started) (H : Type) (enc : TypeId × Value → H) (F : Stop.Interp) :
 ReturnsInHanded {} Tryz.checked os 4 .any ((OpenSpec.ofChange Rows.envelopeUnitesSpec).preRow enc Tryz.prog Tryz.f4 Rows.envelopeUnitesRow.domain false Rows.envelopeUnitesRow.laid) (((OpenSpec.ofChange Rows.envelopeUnitesSpec).at F).post enc Tryz.prog Tryz.f4 false true false false) := by
 obtain ⟨places, hx⟩ := reads os enc
 refine returnsInHanded_of_row (C := Tryz.checked) (s := OpenSpec.ofChange Rows.envelopeUnitesSpec) own started (by kernel_rfl) Tryz.func4
  (witness_row_at (enc := enc) (C := Tryz.checked) false (laidWorld os) #[.agg #[.slice none 0 0, .slice none 0 0, .int .i64 0, .int .u8 0], .agg #[.slice none 0 0, .slice none 0 0, .int .i64 0, .int .u8 0]] rfl (by kernel_rfl) (by kernel_rfl) (by kernel_rfl)
   (OpenSpec.preRow_of_cond 8 hx (by kernel_rfl) (fun k hk => by cases hk) (by kernel_rfl) (laid_met os))) ?_
 intro W base args ds gs before hval hW _ _ _ hL _ _
 exact contract H enc W base args ds gs before hval hW hL
theorem said : Rows.EnvelopeUnitesSaid :=
 OpenClaim.holds_of_cond 4 Tryz.f4 rfl rfl rfl rfl rfl rfl rfl ⟨rfl, rfl, rfl, rfl, rfl⟩ rfl rfl rfl rfl rfl (by kernel_rfl) Tryz.func4 (by kernel_rfl)
  (of_decide_eq_true (by kernel_rfl)) (by unfold Func.isWrapper; first | (rw [if_pos (by decide +kernel)]; kernel_rfl) | (rw [if_neg (by decide +kernel)]; exact ⟨rfl, rfl⟩))
  (fun os started H enc _ F => by rw [OpenClaim.pre_eq_preRow]; exact lifted os started H enc F)
theorem plain (f : FuncId) (fn : Func) (hf : Tryz.pinned.checked.prog.funcNamed "admission/admissionlaw10.EnvelopeUnites" = some f) (hfn : Tryz.pinned.checked.prog.funcs[f]? = some fn) :
 false = Tryz.pinned.checked.prog.looks [] ∧ ∀ (j : Nat) t, fn.params[j]? = some t → Tryz.pinned.checked.prog.wantsStandIn t = false := by
 obtain rfl : f = 4 := Option.some.inj ((show Tryz.prog.funcNamed "admission/admissionlaw10.EnvelopeUnites" = some 4 by kernel_rfl).symm.trans hf) |>.symm
 obtain rfl : fn = Tryz.f4 := (Option.some.inj (Tryz.func4.symm.trans hfn)).symm
 refine ⟨by kernel_rfl, fun j t ht => ?_⟩
 rw [Tryz.params4] at ht
 have hm := Array.mem_of_getElem? ht
 obtain rfl : t = 27 := by simpa using hm
 exact (show Tryz.prog.wantsStandIn 27 = false by kernel_rfl)
theorem card : Rows.EnvelopeUnitesCardSaid :=
 Claim7.holds_tied_plain_at .later [] _ _ _ _ said (fun _ h => by cases h) (by kernel_rfl) (fun _ h => by cases h) envelopeUnites_row_tie rfl ⟨rfl, rfl⟩ (by kernel_rfl) rfl plain (by kernel_rfl)
#print axioms card
end Go.Proofs.YtcligodahogpkaaGreatDoor.envelopeUnitesDone
