/-
  The statement EnvelopeEncodes, whole: the encoded form of every envelope, the envelope of any bytes, and which errors are returned, are what the reference says, for all arguments. The conditions are the row's own: six tables start as their texts lay them (the card ties them; the walk reads the round constants and the powers of ten).
-/
import Derived.Test.YtaeobegaodhpcaaGreatDoorCards
import Derived.Test.YtaeobegaodhpcaaGreatDoorTie
import Derived.Test.YtaeobegaodhpcaaGreatDoorLawEEn
import Derived.Test.YtaeobegaodhpcaaGreatDoorQ31
import Derived.Deep.DeepHandedRow
import Derived.Lib.LaidTab
import Derived.Stop.LaidErr
set_option maxRecDepth 100000
set_option maxHeartbeats 8000000
namespace Go.Proofs.YtaeobegaodhpcaaGreatDoor.envelopeEncodesDone
open Go.ChangeShapes Go.WideShapes Go.ChangeAt Go.RowKit
open Go.ChangeMaps (open_string shut_string)
theorem own:ownKnob Tryz.prog.godebug=none:=by kernel_rfl
theorem laidOut:laidOutB Tryz.prog=true:=by kernel_rfl
theorem gTab : Tryz.prog.globalNamed "admission/digest.roundConstants" = some 4 := by kernel_rfl
theorem gTabType:(Tryz.prog.globals[4]?).map (·.type)=some 163:=by kernel_rfl
theorem cells64:Tryz.prog.cellsOf 163=64:=by kernel_rfl
theorem cells48:Tryz.prog.cellsOf 147=1:=by kernel_rfl
theorem kayData:(Rows.laid_admission_digest_roundConstants:DataW Unit)=Lib.tabData .u32 kay:=by kernel_rfl
theorem table {W : World} (h : laidMetH Tryz.prog Rows.envelopeEncodesRow.laid W) : Lib.TabIs Tryz.prog W "admission/digest.roundConstants" .u32 kay := by
 have h2 : laidMet Tryz.prog [("admission/digest.roundConstants", (Rows.laid_admission_digest_roundConstants : DataW Unit)), ("unicode/utf8.first", (Rows.laid_unicode_utf8_first : DataW Unit))] W := laidMet.tail (laidMet.tail (laidMet.tail (laidMet.tail h)));rw [kayData] at h2;exact Lib.tabIs_of_head gTab gTabType Tryz.underlying163 Tryz.underlying147 cells48 cells64 h2
theorem gTab2 : Tryz.prog.globalNamed "internal/strconv.uint64pow10" = some 1 := by kernel_rfl
theorem gTabType2:(Tryz.prog.globals[1]?).map (·.type)=some 193:=by kernel_rfl
theorem cells20:Tryz.prog.cellsOf 193=20:=by kernel_rfl
theorem cells1:Tryz.prog.cellsOf 88=1:=by kernel_rfl
theorem powData:(Rows.laid_internal_strconv_uint64pow10:DataW Unit)=Lib.tabData .u64 Lib.pow10Tab:=by kernel_rfl
theorem p10In {W:World} (h:laidMetH Tryz.prog Rows.envelopeEncodesRow.laid W):P10In W:=by
 have h2 : laidMet Tryz.prog [("internal/strconv.uint64pow10", (Rows.laid_internal_strconv_uint64pow10 : DataW Unit)), ("unicode/utf8.acceptRanges", (Rows.laid_unicode_utf8_acceptRanges : DataW Unit)), ("admission/digest.roundConstants", (Rows.laid_admission_digest_roundConstants : DataW Unit)), ("unicode/utf8.first", (Rows.laid_unicode_utf8_first : DataW Unit))] W := laidMet.tail (laidMet.tail h);rw [powData] at h2;exact Lib.tabIs_of_head gTab2 gTabType2 Tryz.underlying193 Tryz.underlying88 cells1 cells20 h2
theorem p10Lt {W:World} (h:P10In W):1<W.heap.size:=World.block_lt_of_cell? W _ (Lib.TabIs.cell h gTab2 0 (by simp[Lib.pow10Tab]))
theorem kayIn {W:World} (h:laidMetH Tryz.prog Rows.envelopeEncodesRow.laid W):KayIn W:=fun i hi=>(table h).cell gTab i (by rw[lD];exact hi)
theorem kayLt {W:World} (h:KayIn W):4<W.heap.size:=World.block_lt_of_cell? W _ (h 0 zo)
theorem contract (H:Type) (enc:TypeId × Value→H) (W:World) (base:Nat) (args:Array Value) (ds gs:List (DataW H)) (before:List MemPlace)
 (hval:∀ (j:Nat) t v,Tryz.f3.params[j]? = some t→args[j]? = some v→Value.okWide Tryz.prog W .any base t v)
 (hW:DataW.Whole enc Tryz.prog Tryz.f3.params.toList Rows.envelopeEncodesSpec.vars false W args.toList ds gs before) (hL:laidMetH Tryz.prog Rows.envelopeEncodesRow.laid W) :
 Calls Tryz.prog 3 args W fun e W'=>∃ v,e=.returned v∧Rows.envelopeEncodesSpec.post enc Tryz.prog Tryz.f3 false true false false W args v W':=by
 have hW':=hW;obtain⟨p,q,hA0,hV,rfl,hfz,hnd⟩:=hW;have hA:DataW.TrodAll enc Tryz.prog W 0 (fun _=>true) true Tryz.f3.params.toList args.toList ds p:=hA0;rw[Tryz.params3] at hA hval;obtain⟨v0,vs0,d0,ds0,p0,q0,hargs,rfl,rfl,h0,r0⟩:=trodAll_cons hA;obtain⟨v1,vs1,d1,ds1,p1,q1,rfl,rfl,rfl,h1,r1⟩:=trodAll_cons r0;obtain⟨v2,vs2,d2,ds2,p2,q2,rfl,rfl,rfl,h2,r2⟩:=trodAll_cons r1;obtain⟨rfl,rfl,rfl⟩:=trodAll_nil r2;obtain rfl:args=#[v0,v1,v2]:=by cases args;simp_all
 obtain⟨rfl,rfl⟩:=trodVars_none hV;have k0:=h0;have lt0:∀ x ∈ p0,x.block<W.heap.size:=by obtain⟨m,hm⟩:=k0;exact DataW.trod_lt m _ _ _ hm
 have k1:=h1;have lt1:∀ x ∈ p1,x.block<W.heap.size:=by obtain⟨m,hm⟩:=k1;exact DataW.trod_lt m _ _ _ hm
 have k2:=h2;have lt2:∀ x ∈ p2,x.block<W.heap.size:=by obtain⟨m,hm⟩:=k2;exact DataW.trod_lt m _ _ _ hm
 obtain⟨cs0,rfl⟩:=LC (hval 0 25 v0 rfl rfl);obtain⟨t0,sp0,n0,c0,b0,sq0,m0,cq0,l0,rfl,hp0,hpn0,hl0,hln0⟩:=(show ∃ (t:ByteArray) (sp:Option Addr) (n cap:Nat) (b:List UInt8) (sq:Option Addr) (m cq:Nat) (l:List Sg),cs0=enA t (.slice sp n cap) (.slice sq m cq)∧BSrc W W.heap.size sp n cap b∧(sp=none→cap=0)∧SgsIn W W.heap.size sq m cq l∧(sq=none→cq=0) from by
  obtain⟨fuel,hf⟩:=h0;exact QY hf)
 obtain⟨a1,n1,c1,rfl⟩:=okWide_slice Tryz.underlying22 (hval 1 22 v1 rfl rfl);obtain⟨l1,hl1⟩:∃ l,BSrc W W.heap.size a1 n1 c1 l:=by
  obtain⟨fuel,hf⟩:=h1;exact jS hf
 obtain⟨cs2,rfl⟩:=LD (hval 2 27 v2 rfl rfl);obtain⟨sp2,n2,c2,b2,sc2,nc2,cc2,sn2,kk2,yy2,rfl,hp2,hpn2,hnc2,hs2,hy2⟩:=(show ∃ (sp:Option Addr) (n cap:Nat) (b:List UInt8) (sc:Option Addr) (nc cc:Nat) (sn:List UInt8) (kk yy:Int),cs2=caA (.slice sp n cap) (.slice sc nc cc) kk yy∧BSrc W W.heap.size sp n cap b∧(sp=none→cap=0)∧n≤cap∧BSrc W W.heap.size sc nc cc sn∧(0≤yy∧yy<256) from by
  obtain⟨fuel,hf⟩:=h2;exact RH hf)
 clear hA0;have hk:=kayIn hL;refine (lM t0 sp0 n0 c0 b0 sq0 m0 cq0 l0 a1 n1 c1 l1 sp2 n2 c2 b2 sc2 nc2 cc2 sn2 kk2 yy2 W hp0 hpn0 hl0 hln0 hl1 hp2 hpn2 hnc2 hs2 hy2 hk (kayLt hk) (p10In hL) (p10Lt (p10In hL))).mono fun e W' ⟨he,bel⟩=>?_;subst he;exact⟨_,rfl,_,_,_,[],_,[],hW',trodAll_mk1 (shut_bool Tryz.underlying4 _),(trodAll_cons_mk (Below.trod laidOut (by kernel_rfl) (of_decide_eq_true (by kernel_rfl)) k0 bel lt0) (trodAll_cons_mk (Below.trod laidOut (by kernel_rfl) (of_decide_eq_true (by kernel_rfl)) k1 bel lt1) (trodAll_cons_mk (Below.trod laidOut (by kernel_rfl) (of_decide_eq_true (by kernel_rfl)) k2 bel lt2) trodAll_mk0))),rfl,bel.frame _,fun h=>by cases h⟩
def acc:List Int:=[128,191,160,191,128,159,144,191,128,143]++List.replicate 22 0
def db32:List Int:=[0,1,28,2,29,14,24,3,30,22,20,15,25,17,4,8,31,27,13,23,21,19,16,7,26,12,18,6,11,5,10,9]
def db64:List Int:=[0,1,56,2,57,49,28,3,61,58,42,50,38,29,17,4,62,47,59,36,45,43,51,22,53,39,33,30,24,18,12,5,63,55,48,27,60,41,37,16,46,35,44,21,52,32,23,11,54,26,40,15,34,20,31,10,25,14,19,9,13,8,7,6]
def layCells (k:IntKind) (vs:List Int):Obj→Obj
 | .cells _ t frozen=>.cells (vs.map (Value.int k)).toArray t frozen
 | o=>o
noncomputable def laidWorld (os:Os):World :=
 { World.holding Tryz.prog os ⟨#[],#[],[]⟩ with heap:=((((((World.holding Tryz.prog os ⟨#[],#[],[]⟩).heap.modify 5 (layCells .u8 db32)).modify 6 (layCells .u8 db64)).modify 1 (layCells .u64 Lib.pow10Tab)).modify 3 (layCells .u8 acc)).modify 2 (layCells .u8 (Go.Pinned.utf8FirstZ.map Int.ofNat))).modify 4 (layCells .u32 kay) }
theorem laid_met (os:Os):laidMet Tryz.prog Rows.envelopeEncodesRow.laid ((laidWorld os).forCall (fun _ _=>0) ⟨#[],#[.agg #[.string ByteArray.empty,.slice none 0 0,.slice none 0 0],.slice none 0 0,.agg #[.slice none 0 0,.slice none 0 0,.int .i64 0,.int .u8 0]],[]⟩).memory :=
 laidMet_of_run' 8 (by kernel_rfl) (by kernel_rfl)
theorem reads (os:Os) {H:Type} (enc:TypeId × Value→H):∃ places,DataW.whole enc Tryz.prog ((laidWorld os).forCall (fun _ _=>0) ⟨#[],#[.agg #[.string ByteArray.empty,.slice none 0 0,.slice none 0 0],.slice none 0 0,.agg #[.slice none 0 0,.slice none 0 0,.int .i64 0,.int .u8 0]],[]⟩).memory Tryz.f3.params.toList Rows.envelopeEncodesSpec.vars false #[.agg #[.string ByteArray.empty,.slice none 0 0,.slice none 0 0],.slice none 0 0,.agg #[.slice none 0 0,.slice none 0 0,.int .i64 0,.int .u8 0]].toList 8=some ([.agg [.lit (.string []),.nil,.nil],.nil,.agg [.nil,.nil,.lit (.int .i64 0),.lit (.int .u8 0)]],[],places) :=
 ⟨[],by kernel_rfl⟩
theorem lifted (os:Os) (started:os.Started) (H:Type) (enc:TypeId × Value→H) (F:Stop.Interp) :
 ReturnsInHanded {} Tryz.checked os 3 .any ((OpenSpec.ofChange Rows.envelopeEncodesSpec).preRow enc Tryz.prog Tryz.f3 Rows.envelopeEncodesRow.domain false Rows.envelopeEncodesRow.laid) (((OpenSpec.ofChange Rows.envelopeEncodesSpec).at F).post enc Tryz.prog Tryz.f3 false true false false):=by
 obtain⟨places,hx⟩:=reads os enc
 refine returnsInHanded_of_row (C:=Tryz.checked) (s:=OpenSpec.ofChange Rows.envelopeEncodesSpec) own started (by kernel_rfl) Tryz.func3
  (witness_row_at (enc:=enc) (C:=Tryz.checked) false (laidWorld os) #[.agg #[.string ByteArray.empty,.slice none 0 0,.slice none 0 0],.slice none 0 0,.agg #[.slice none 0 0,.slice none 0 0,.int .i64 0,.int .u8 0]] rfl (by kernel_rfl) (by kernel_rfl) (by kernel_rfl)
   (OpenSpec.preRow_of_cond 8 hx (by kernel_rfl) (fun k hk=>by cases hk) (by kernel_rfl) (laid_met os))) ?_
 intro W base args ds gs before hval hW _ _ _ hL _ _;exact contract H enc W base args ds gs before hval hW hL
theorem said:Rows.EnvelopeEncodesSaid :=
 OpenClaim.holds_of_cond 3 Tryz.f3 rfl rfl rfl rfl rfl rfl rfl ⟨rfl,rfl,rfl,rfl,rfl⟩ rfl rfl rfl rfl rfl (by kernel_rfl) Tryz.func3 (by kernel_rfl)
  (of_decide_eq_true (by kernel_rfl)) (by unfold Func.isWrapper;first | (rw[if_pos (by decide +kernel)];kernel_rfl) | (rw[if_neg (by decide +kernel)];exact⟨rfl,rfl⟩))
  (fun os started H enc _ F=>by rw[OpenClaim.pre_eq_preRow];exact lifted os started H enc F)
theorem plain (f : FuncId) (fn : Func) (hf : Tryz.pinned.checked.prog.funcNamed "admission/admissionlaw10.EnvelopeEncodes" = some f) (hfn : Tryz.pinned.checked.prog.funcs[f]? = some fn) :
 false=Tryz.pinned.checked.prog.looks []∧∀ (j:Nat) t,fn.params[j]? = some t→Tryz.pinned.checked.prog.wantsStandIn t=false:=by
 obtain rfl : f = 3 := Option.some.inj ((show Tryz.prog.funcNamed "admission/admissionlaw10.EnvelopeEncodes" = some 3 by kernel_rfl).symm.trans hf) |>.symm
 obtain rfl:fn=Tryz.f3:=(Option.some.inj (Tryz.func3.symm.trans hfn)).symm;refine⟨by kernel_rfl,fun j t ht=>?_⟩;rw[Tryz.params3] at ht;have hm:=Array.mem_of_getElem? ht;have:t=25∨t=22∨t=27:=by simpa using hm
 rcases this with rfl | rfl | rfl
 ·exact (show Tryz.prog.wantsStandIn 25=false by kernel_rfl)
 ·exact (show Tryz.prog.wantsStandIn 22=false by kernel_rfl)
 ·exact (show Tryz.prog.wantsStandIn 27=false by kernel_rfl)
theorem card:Rows.EnvelopeEncodesCardSaid :=
 Claim7.holds_tied_plain_at .later [] _ _ _ _ said (fun _ h=>by cases h) (by kernel_rfl) (fun _ h=>by cases h) envelopeEncodes_row_tie rfl ⟨rfl,rfl⟩ (by kernel_rfl) rfl plain (by kernel_rfl)
#print axioms card
end Go.Proofs.YtaeobegaodhpcaaGreatDoor.envelopeEncodesDone
