/-
  The statement KeytreeWords, whole: the words of every signature, the signature of any words, and that it is read from its words, are what the reference says, for all arguments. The conditions are the row's own: the table of round constants starts as the program's text lays it (the card ties it).
-/
import Derived.Test.YtbfgkbcpkldofaaDoorCards
import Derived.Test.YtbfgkbcpkldofaaDoorTie
import Derived.Test.YtbfgkbcpkldofaaDoorLawKWd
import Derived.Test.YtbfgkbcpkldofaaDoorArgW
import Derived.WalkKit
import Derived.ProofKit
import Derived.OpenShut
import Derived.ShutString
import Derived.ChangeOld
import Derived.Below
import Derived.Deep.DeepHandedRow
import Derived.Lib.LaidTab
import Derived.Stop.LaidErr
namespace Go.Proofs.YtbfgkbcpkldofaaDoor.keytreeWordsDone
open Go.ChangeShapes Go.WideShapes Go.ChangeAt Go.RowKit
open Go.ChangeMaps (open_string shut_string)

theorem own : ownKnob Tryd.prog.godebug = none := by kernel_rfl
theorem laidOut : laidOutB Tryd.prog = true := by kernel_rfl
theorem gTab : Tryd.prog.globalNamed "admission/digest.roundConstants" = some 1 := by kernel_rfl
theorem gTabType : (Tryd.prog.globals[1]?).map (·.type) = some 148 := by kernel_rfl
theorem cells64 : Tryd.prog.cellsOf 148 = 64 := by kernel_rfl
theorem cells48 : Tryd.prog.cellsOf 121 = 1 := by kernel_rfl
theorem kayData : (Rows.laid_admission_digest_roundConstants : DataW Unit) = Lib.tabData .u32 kay := by kernel_rfl
theorem table {W : World} (h : laidMetH Tryd.prog Rows.keytreeWordsRow.laid W) : Lib.TabIs Tryd.prog W "admission/digest.roundConstants" .u32 kay := by
  have h2 : laidMet Tryd.prog [("admission/digest.roundConstants", (Rows.laid_admission_digest_roundConstants : DataW Unit))] W := laidMet.tail (laidMet.tail (laidMet.tail h))
  rw [kayData] at h2
  exact Lib.tabIs_of_head gTab gTabType Tryd.underlying148 Tryd.underlying121 cells48 cells64 h2
theorem gTab2 : Tryd.prog.globalNamed "internal/strconv.uint64pow10" = some 0 := by kernel_rfl
theorem gTabType2 : (Tryd.prog.globals[0]?).map (·.type) = some 160 := by kernel_rfl
theorem cells20 : Tryd.prog.cellsOf 160 = 20 := by kernel_rfl
theorem cells1 : Tryd.prog.cellsOf 101 = 1 := by kernel_rfl
theorem powData : (Rows.laid_internal_strconv_uint64pow10 : DataW Unit) = Lib.tabData .u64 Lib.pow10Tab := by kernel_rfl
theorem p10In {W : World} (h : laidMetH Tryd.prog Rows.keytreeWordsRow.laid W) : P10In W := by
  have h2 : laidMet Tryd.prog [("internal/strconv.uint64pow10", (Rows.laid_internal_strconv_uint64pow10 : DataW Unit)), ("admission/digest.roundConstants", (Rows.laid_admission_digest_roundConstants : DataW Unit))] W := laidMet.tail (laidMet.tail h)
  rw [powData] at h2
  exact Lib.tabIs_of_head gTab2 gTabType2 Tryd.underlying160 Tryd.underlying101 cells1 cells20 h2
theorem p10Lt {W : World} (h : P10In W) : 0 < W.heap.size := World.block_lt_of_cell? W _ (Lib.TabIs.cell h gTab2 0 (by simp [Lib.pow10Tab]))
theorem kayIn {W : World} (h : laidMetH Tryd.prog Rows.keytreeWordsRow.laid W) : KayIn W := fun i hi => (table h).cell gTab i (by rw [kay_length]; exact hi)
theorem kayLt {W : World} (h : KayIn W) : 1 < W.heap.size := World.block_lt_of_cell? W _ (h 0 (by omega))
set_option maxRecDepth 100000 in
theorem contract (H : Type) (enc : TypeId × Value → H) (W : World) (base : Nat) (args : Array Value) (ds gs : List (DataW H)) (before : List MemPlace)
    (hval : ∀ (j : Nat) t v, Tryd.f4.params[j]? = some t → args[j]? = some v → Value.okWide Tryd.prog W .any base t v)
    (hW : DataW.Whole enc Tryd.prog Tryd.f4.params.toList Rows.keytreeWordsSpec.vars false W args.toList ds gs before) (hL : laidMetH Tryd.prog Rows.keytreeWordsRow.laid W) :
    Calls Tryd.prog 4 args W fun e W' => ∃ v, e = .returned v ∧ Rows.keytreeWordsSpec.post enc Tryd.prog Tryd.f4 false true false false W args v W' := by
  have hW' := hW
  obtain ⟨p, q, hA0, hV, rfl, hfz, hnd⟩ := hW
  have hA : DataW.TrodAll enc Tryd.prog W 0 (fun _ => true) true Tryd.f4.params.toList args.toList ds p := hA0
  rw [Tryd.params4] at hA hval
  obtain ⟨v0, vs0, d0, ds0, p0, q0, hargs, rfl, rfl, h0, r0⟩ := trodAll_cons hA
  obtain ⟨v1, vs1, d1, ds1, p1, q1, rfl, rfl, rfl, h1, r1⟩ := trodAll_cons r0
  obtain ⟨v2, vs2, d2, ds2, p2, q2, rfl, rfl, rfl, h2, r2⟩ := trodAll_cons r1
  obtain ⟨rfl, rfl, rfl⟩ := trodAll_nil r2
  obtain rfl : args = #[v0, v1, v2] := by cases args; simp_all
  obtain ⟨rfl, rfl⟩ := trodVars_none hV
  have k0 := h0
  have lt0 : ∀ x ∈ p0, x.block < W.heap.size := by obtain ⟨m, hm⟩ := k0; exact DataW.trod_lt m _ _ _ hm
  have k1 := h1
  have lt1 : ∀ x ∈ p1, x.block < W.heap.size := by obtain ⟨m, hm⟩ := k1; exact DataW.trod_lt m _ _ _ hm
  have k2 := h2
  have lt2 : ∀ x ∈ p2, x.block < W.heap.size := by obtain ⟨m, hm⟩ := k2; exact DataW.trod_lt m _ _ _ hm
  obtain ⟨cs0, rfl⟩ := okWide_si (hval 0 37 v0 rfl rfl)
  obtain ⟨a0, sp0, n0, c0, l0, sq0, m0, d0', k0', rfl, hl0, hm0, hz0, hy0⟩ := (show ∃ (a : Int) (sp1 : Option Addr) (n1 c1 : Nat) (l1 : List (List Int)) (sp2 : Option Addr) (n2 c2 : Nat) (l2 : List (List Int)), cs0 = siA a (.slice sp1 n1 c1) (.slice sp2 n2 c2) ∧ HvsIn W W.heap.size sp1 n1 c1 l1 ∧ HvsIn W W.heap.size sp2 n2 c2 l2 ∧ (sp1 = none → c1 = 0) ∧ (sp2 = none → c2 = 0) from by
    obtain ⟨fuel, hf⟩ := h0
    exact siArg_of hf)
  have hw0 : -9223372036854775808 ≤ a0 ∧ a0 ≤ 9223372036854775807 := by
    obtain ⟨fuel, hf⟩ := h0
    exact siWf hf
  obtain ⟨a1, n1, c1, rfl⟩ := okWide_slice Tryd.underlying43 (hval 1 43 v1 rfl rfl)
  obtain ⟨l1, hl1, hc1, hx1⟩ := (show ∃ l, StrsIn W W.heap.size a1 n1 l ∧ n1 ≤ c1 ∧ (hdB l).size ≤ 9223372036854775807 from by
    obtain ⟨fuel, hf⟩ := h1
    exact strW_of hf)
  obtain ⟨cs2, rfl⟩ := okWide_arr Tryd.underlying23 (hval 2 23 v2 rfl rfl)
  obtain ⟨l2, rfl, hl2⟩ : ∃ L : List Int, cs2 = hvA L ∧ H16 L := by
    obtain ⟨fuel, hf⟩ := h2
    exact hfArg_of hf
  clear hA0
  have hk := kayIn hL
  refine (keytreeWords_any a0 sp0 n0 c0 l0 sq0 m0 d0' k0' a1 n1 c1 l1 l2 W hw0.1 hw0.2 hl0 hm0 hz0 hy0 hl1 hc1 hx1 hl2 hk (kayLt hk) (p10In hL) (p10Lt (p10In hL))).mono fun e W' ⟨he, bel⟩ => ?_
  subst he
  exact ⟨_, rfl, _, _, _, [], _, [], hW', trodAll_mk1 (shut_bool Tryd.underlying4 _), (trodAll_cons_mk (Below.trod laidOut (by kernel_rfl) (of_decide_eq_true (by kernel_rfl)) k0 bel lt0) (trodAll_cons_mk (Below.trod laidOut (by kernel_rfl) (of_decide_eq_true (by kernel_rfl)) k1 bel lt1) (trodAll_cons_mk (Below.trod laidOut (by kernel_rfl) (of_decide_eq_true (by kernel_rfl)) k2 bel lt2) trodAll_mk0))), rfl, bel.frame _, fun h => by cases h⟩

/-- a world for the witness: the settled one, the tables holding what their texts lay -/
def acc : List Int := [128, 191, 160, 191, 128, 159, 144, 191, 128, 143] ++ List.replicate 22 0
def db32 : List Int := [0, 1, 28, 2, 29, 14, 24, 3, 30, 22, 20, 15, 25, 17, 4, 8, 31, 27, 13, 23, 21, 19, 16, 7, 26, 12, 18, 6, 11, 5, 10, 9]
def db64 : List Int := [0, 1, 56, 2, 57, 49, 28, 3, 61, 58, 42, 50, 38, 29, 17, 4, 62, 47, 59, 36, 45, 43, 51, 22, 53, 39, 33, 30, 24, 18, 12, 5, 63, 55, 48, 27, 60, 41, 37, 16, 46, 35, 44, 21, 52, 32, 23, 11, 54, 26, 40, 15, 34, 20, 31, 10, 25, 14, 19, 9, 13, 8, 7, 6]
def layCells (k : IntKind) (vs : List Int) : Obj → Obj
  | .cells _ t frozen => .cells (vs.map (Value.int k)).toArray t frozen
  | o => o
noncomputable def laidWorld (os : Os) : World :=
  { World.holding Tryd.prog os ⟨#[], #[], []⟩ with heap := ((((World.holding Tryd.prog os ⟨#[], #[], []⟩).heap.modify 3 (layCells .u8 db32)).modify 4 (layCells .u8 db64)).modify 0 (layCells .u64 Lib.pow10Tab)).modify 1 (layCells .u32 kay) }
theorem laid_met (os : Os) : laidMet Tryd.prog Rows.keytreeWordsRow.laid ((laidWorld os).forCall (fun _ _ => 0) ⟨#[], #[.agg #[.int .i64 0, .slice none 0 0, .slice none 0 0], .slice none 0 0, .agg (Array.replicate 16 (Value.int .u8 0))], []⟩).memory :=
  laidMet_of_run' 8 (by kernel_rfl) (by kernel_rfl)
theorem reads (os : Os) {H : Type} (enc : TypeId × Value → H) : ∃ places, DataW.whole enc Tryd.prog ((laidWorld os).forCall (fun _ _ => 0) ⟨#[], #[.agg #[.int .i64 0, .slice none 0 0, .slice none 0 0], .slice none 0 0, .agg (Array.replicate 16 (Value.int .u8 0))], []⟩).memory Tryd.f4.params.toList Rows.keytreeWordsSpec.vars false #[.agg #[.int .i64 0, .slice none 0 0, .slice none 0 0], .slice none 0 0, .agg (Array.replicate 16 (Value.int .u8 0))].toList 8 = some ([.agg [.lit (.int .i64 0), .nil, .nil], .nil, .agg (List.replicate 16 (.lit (.int .u8 0)))], [], places) :=
  ⟨[], by kernel_rfl⟩

set_option maxRecDepth 100000 in
theorem lifted (os : Os) (started : os.Started) (H : Type) (enc : TypeId × Value → H) (F : Stop.Interp) :
    ReturnsInHanded {} Tryd.checked os 4 .any ((OpenSpec.ofChange Rows.keytreeWordsSpec).preRow enc Tryd.prog Tryd.f4 Rows.keytreeWordsRow.domain false Rows.keytreeWordsRow.laid) (((OpenSpec.ofChange Rows.keytreeWordsSpec).at F).post enc Tryd.prog Tryd.f4 false true false false) := by
  obtain ⟨places, hx⟩ := reads os enc
  refine returnsInHanded_of_row (C := Tryd.checked) (s := OpenSpec.ofChange Rows.keytreeWordsSpec) own started (by kernel_rfl) Tryd.func4
    (witness_row_at (enc := enc) (C := Tryd.checked) false (laidWorld os) #[.agg #[.int .i64 0, .slice none 0 0, .slice none 0 0], .slice none 0 0, .agg (Array.replicate 16 (Value.int .u8 0))] rfl (by kernel_rfl) (by kernel_rfl) (by kernel_rfl)
      (OpenSpec.preRow_of_cond 8 hx (by kernel_rfl) (fun k hk => by cases hk) (by kernel_rfl) (laid_met os))) ?_
  intro W base args ds gs before hval hW _ _ _ hL _ _
  exact contract H enc W base args ds gs before hval hW hL

theorem said : Rows.KeytreeWordsSaid :=
  OpenClaim.holds_of_cond 4 Tryd.f4 rfl rfl rfl rfl rfl rfl rfl ⟨rfl, rfl, rfl, rfl, rfl⟩ rfl rfl rfl rfl rfl (by kernel_rfl) Tryd.func4 (by kernel_rfl)
    (of_decide_eq_true (by kernel_rfl)) (by unfold Func.isWrapper; first | (rw [if_pos (by decide +kernel)]; kernel_rfl) | (rw [if_neg (by decide +kernel)]; exact ⟨rfl, rfl⟩))
    (fun os started H enc _ F => by rw [OpenClaim.pre_eq_preRow]; exact lifted os started H enc F)

theorem plain (f : FuncId) (fn : Func) (hf : Tryd.pinned.checked.prog.funcNamed "admission/admissionlaw09.KeytreeWords" = some f) (hfn : Tryd.pinned.checked.prog.funcs[f]? = some fn) :
    false = Tryd.pinned.checked.prog.looks [] ∧ ∀ (j : Nat) t, fn.params[j]? = some t → Tryd.pinned.checked.prog.wantsStandIn t = false := by
  obtain rfl : f = 4 := Option.some.inj ((show Tryd.prog.funcNamed "admission/admissionlaw09.KeytreeWords" = some 4 by kernel_rfl).symm.trans hf) |>.symm
  obtain rfl : fn = Tryd.f4 := (Option.some.inj (Tryd.func4.symm.trans hfn)).symm
  refine ⟨by kernel_rfl, fun j t ht => ?_⟩
  rw [Tryd.params4] at ht
  have hm := Array.mem_of_getElem? ht
  have : t = 37 ∨ t = 43 ∨ t = 23 := by simpa using hm
  rcases this with rfl | rfl | rfl
  · exact (show Tryd.prog.wantsStandIn 37 = false by kernel_rfl)
  · exact (show Tryd.prog.wantsStandIn 43 = false by kernel_rfl)
  · exact (show Tryd.prog.wantsStandIn 23 = false by kernel_rfl)

/-- THE CARD -/
theorem card : Rows.KeytreeWordsCardSaid :=
  Claim7.holds_tied_plain_at .later [] _ _ _ _ said (fun _ h => by cases h) (by kernel_rfl) (fun _ h => by cases h) keytreeWords_row_tie rfl ⟨rfl, rfl⟩ (by kernel_rfl) rfl plain (by kernel_rfl)
#print axioms card
end Go.Proofs.YtbfgkbcpkldofaaDoor.keytreeWordsDone
