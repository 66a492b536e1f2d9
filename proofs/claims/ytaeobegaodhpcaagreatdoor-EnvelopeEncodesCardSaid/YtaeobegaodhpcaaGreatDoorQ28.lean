/-
  Envelopes: the walk of readLines (conditions: the lines stand in memory; no line is empty, none has more than 1000 words, no word is longer than 100000 bytes; at most 1000 lines).
-/
import Derived.Test.YtaeobegaodhpcaaGreatDoorZip
import Derived.Test.YtaeobegaodhpcaaGreatDoorQ27
import Derived.Lib.ConvBytes
set_option maxRecDepth 100000
set_option maxHeartbeats 8000000
namespace Go.Proofs.YtaeobegaodhpcaaGreatDoor
open Go.RowKit Go.Proofs.YtaeobegaodhpcaaGreatDoor.One
theorem IB (w:World) (s:ByteArray):Below w.heap.size w (Lib.bytesWorld w 5 s) :=
 ⟨by simp[Lib.bytesWorld,World.freeze];rfl,by simp[Lib.bytesWorld,World.freeze],by simp[Lib.bytesWorld,World.freeze];rfl,by rw[Lib.bytesWorld_size];omega,fun k hk=>Lib.bytesWorld_at_old w _ s k hk⟩
structure PyO (w:World) (g:Nat) (s:ByteArray):Prop where
 lt:g<w.heap.size
 c:∀ j,j<s.size→w.cell? ⟨g,j,none⟩=some (.int .u8 (s.data.toList.getD j 0).toNat)
theorem PyO.below {w w':World} {g B:Nat} {s:ByteArray} (h:PyO w g s) (hb:Below B w w') (hg:g<B):PyO w' g s :=
 ⟨Nat.lt_of_lt_of_le h.lt hb.size,fun j hj=>(hb.cell (p:=⟨g,j,none⟩) hg).trans (h.c j hj)⟩
theorem PyO.keep {w w':World} {g:Nat} {s:ByteArray} (h:PyO w g s) (hk:w'.heap[g]? = w.heap[g]?) (hs:w.heap.size≤w'.heap.size):PyO w' g s :=
 ⟨Nat.lt_of_lt_of_le h.lt hs,fun j hj=>(World.cell?_of_block (w:=w) (a:=⟨g,j,none⟩) hk).trans (h.c j hj)⟩
theorem PyO.src {w:World} {g cap:Nat} {s:ByteArray} (h:PyO w g s) (hc:s.size≤cap):BSrc w w.heap.size (some ⟨g,0,none⟩) s.size cap s.data.toList :=
 ⟨by rw[Lib.size_eq],fun _=>⟨g,0,rfl,h.lt,hc,fun j hj=>by
  have hj':j<s.size:=by rw[Lib.size_eq];exact hj
  rw[Nat.zero_add,h.c j hj',List.getD_eq_getElem?_getD,List.getElem?_eq_getElem hj];rfl⟩⟩
theorem kX {B:Nat} {w0 w:World} {l:List (Nat × Obj)} (hS:Blks B w0 w l) {o:Oper} {a:Act} {K:Act→World→Prop} {Q:Exit→Act→World→Prop} (x:Operand) (ho:o.op=.convert 9 22 x) (s:ByteArray) (hx:a.eval x=.string s)
 (h:∀ g cap w' c f,Hid (s.size≤cap)→Hid (Blks B w0 w' ((g,.cells c 5 f) :: l))→Hid (PyO w' g s)→Hid (Below w.heap.size w w')→K (a.put o.dst (.slice (some ⟨g,0,none⟩) s.size cap)) w'):o.wp Tryz.prog a w K Q:=by
 unfold Oper.wp execOp;simp only[ho,hx,Sem.run_bind,Lib.run_convert_string_bytes w 9 22 5 s Tryz.underlying9 Tryz.underlying22 Tryz.underlying5,Result.andThen_ok,Sem.run_pure];have hb:=IB w s;have hn:=Lib.bytesWorld_at_new w 5 s;have hc:=hS.call hb;refine h _ _ _ (Lib.bytesCells w 5 s) ((Lib.bytesCells w 5 s).size,(Lib.bytesCells w 5 s).size+1) (grownCap_ge w s.size 0 5) (show Blks B w0 (Lib.bytesWorld w 5 s) _ from ⟨hc.b,hc.k,fun p hp=>?_,?_⟩) ⟨by rw[Lib.bytesWorld_size];omega,fun j hj=>Lib.bytesWorld_cell w 5 s j hj⟩ hb
 ·rcases List.mem_cons.1 hp with rfl | hp
  ·exact⟨hS.k,by rw[Lib.bytesWorld_size];exact Nat.lt_succ_self _,hn⟩
  ·exact hc.h p hp
 ·rw[List.map_cons,List.nodup_cons];refine⟨fun hm=>?_,hS.nd⟩;obtain⟨p,hp,e⟩:=List.mem_map.1 hm;have:=(hS.h p hp).2.1;omega
theorem qW (t:ByteArray) (g n c:Nat) (w:World):(Instr.build 25 #[(0,.string t),(1,.slice (some ⟨g,0,none⟩) n c)]).run Tryz.prog w=.ok (.agg (enA t (.slice (some ⟨g,0,none⟩) n c) aH)) w:=by kernel_rfl
theorem jD (w:World) (a:Addr) (u:Value):w.heap.size≤(w.setCell a u).heap.size:=((Below.refl 0 w).setCell (p:=a) (Nat.zero_le _) u).size
theorem SZ {L:List (List ByteArray)} (h:L.length=0):fmK L=false:=by unfold fmK hdK;rw[decide_eq_false zo];rfl
theorem TA {L:List (List ByteArray)} (h:(L.getD 0 []).length≠3):fmK L=false:=by unfold fmK hdK;rw[decide_eq_false h];simp
theorem MK {L:List (List ByteArray)} (h:wdN (L.getD 0 []) 0≠mN):fmK L=false:=by unfold fmK hdK;rw[decide_eq_false h];simp
theorem ZY {L:List (List ByteArray)} (h:L.length≠0) (h1:(L.getD 0 []).length=3) (h2:wdN (L.getD 0 []) 0=mN):fmK L=(L.drop 1).all rsK:=by unfold fmK hdK;rw[decide_eq_true h,decide_eq_true h1,decide_eq_true h2];rfl
theorem vW (s:ByteArray):(s=mN↔s.toList=[101,110,118,101,108,111,112,101]):=by
 constructor
 ·rintro rfl;rw[Lib.toList_data];rfl
 ·intro h;rw[Lib.toList_data] at h;have:s.data=#[101,110,118,101,108,111,112,101]:=Array.toList_inj.1 h;show s=⟨#[101,110,118,101,108,111,112,101]⟩;rw[←this]
theorem EU {L:List (List ByteArray)} {k:Nat} {q:List ByteArray} (h:L[k]? = some q):(L.take (k+1)).all rsK=((L.take k).all rsK && rsK q):=by rw[List.take_add_one,h,List.all_append];simp
theorem TI {L:List (List ByteArray)} {k:Nat} {q:List ByteArray} (h:L[k]? = some q) (hq:rsK q=false):L.all rsK=false:=by
 rw[List.all_eq_false];exact⟨q,List.mem_of_getElem? h,by rw[hq];simp⟩
structure RdE (ga gp capp B1:Nat) (s:ByteArray) (t:ByteArray) (v:Value) (l:List Sg) (w:World):Prop where
 box:w.heap[ga]? = some (.cells (enA t (.slice (some ⟨gp,0,none⟩) s.size capp) v) 25 (0,0))
 py:PyO w gp s
 o:OwnG w B1 v l
 t:∀ y ∈ l,SgT w B1 y
 k:B1≤w.heap.size
theorem RdE.below {ga gp capp B1:Nat} {s t:ByteArray} {v:Value} {l:List Sg} {w w':World} (h:RdE ga gp capp B1 s t v l w) (hb:Below w.heap.size w w'):RdE ga gp capp B1 s t v l w' :=
 ⟨(hb.block _ (Array.getElem?_eq_some_iff.1 h.box).1).trans h.box,h.py.below hb h.py.lt,h.o.below hb,fun y hy=>(h.t y hy).below hb,Nat.le_trans h.k hb.size⟩
def RlA (L:List (List ByteArray)) (w:World) (e:Ending) (w':World):Prop:=Below w.heap.size w w' ∧
 ((fmK L=false∧e=.returned (.tuple #[.agg zEn,.bool false])) ∨
  (fmK L=true∧∃ gp capp sq m cq l,e=.returned (.tuple #[.agg (enA (jQ L).t (.slice (some ⟨gp,0,none⟩) (wdN (L.getD 0 []) 2).size capp) (.slice sq m cq)),.bool true])∧(wdN (L.getD 0 []) 2).size≤capp∧PyO w' gp (wdN (L.getD 0 []) 2)∧w.heap.size≤gp∧OwnG w' w.heap.size (.slice sq m cq) l∧(∀ y ∈ l,SgT w' w.heap.size y)∧l.length=m∧l.map pg=(jQ L).L))
theorem sQ (sp0:Option Addr) (n0 cap0:Nat) (ls:List Ln) (w:World) (hl:LinesIn w w.heap.size sp0 n0 ls) (hcap:n0≤cap0) (hlen:n0≤1000) (hq:∀ q ∈ ls,q.l≠[]∧q.n≤q.cap∧q.n≤1000∧∀ s ∈ q.l,s.size≤100000) :
 Calls Tryz.prog 25 #[.slice sp0 n0 cap0] w (RlA (aD ls) w):=by
 have HL:=zh hl;have HQ:=zh hq;have hll:=hl.len;clear hl hq;have HZ:=zh (heap_alloc_new w (.cells zEn 25));have HB:=zh (aA w (.cells zEn 25));have HS:=zh (aF w (.cells zEn 25))
 go_enter Tryz.func25,Tryz.ntmps25
 go_upto_region 1 with (fail)
 generalize hw0:World.alloc w _=w0;have HZ0:Hid (Ah w0 w.heap.size zEn 25):=by rw[←hw0];exact HZ.out
 have HB0:Hid (Bw w w0):=by rw[←hw0];exact HB.out
 have hs0:w.heap.size+1≤w0.heap.size:=by rw[←hw0];exact Nat.le_of_eq HS.out.symm
 clear hw0 HZ HB HS;have hbe:=fW;have HWL:Hid ((aD ls).length=n0):=by show _=_;rw[bD,hll]
 by_cases h0:n0=0
 ·have q1:decide ((n0:Int)=0)=true:=by simp;omega
  have q2:((n0:Int) == 0)=true:=by rw[beq_iff_eq];omega
  have HF:Hid (fmK (aD ls)=false):=SZ (by rw[HWL.out];exact h0);clear HL HQ
  go_wp2_with (refine wpList_store_row rfl 25 _ _ rfl w.heap.size zEn rfl rfl 25 _ HZ0.out (aE _ _ _) rfl (bI _ _ _ _ _ _ _) ?_)
  exact bodyPost_ret (aC (P:=Tryz.prog) rfl _ _ w.heap.size 25 _ (0,0) _ rfl (setRow_heap _ _ _ _ _ _ HZ0.out) Tryz.underlying25 rfl (aE _ _ _)) rfl ⟨below_setRow HB0.out zl _,.inl ⟨HF.out,rfl⟩⟩
 have q1:decide ((n0:Int)=0)=false:=by simp;omega
 have q2:((n0:Int) == 0)=false:=by rw[beq_eq_false_iff_ne];omega
 obtain⟨pb,po,rfl,hpb,hpc⟩:=HL.out.cells zo;have hl0:0<ls.length:=by omega
 obtain⟨qs,qn,qc,ql,hqe⟩:∃ qs qn qc ql,ls[0]=(⟨qs,qn,qc,ql⟩:Ln):=⟨ls[0].sp,ls[0].n,ls[0].cap,ls[0].l,rfl⟩;have HST:Hid (StrsIn w w.heap.size qs qn ql):=by have h:=HL.out.each _ (List.getElem_mem hl0);rw[hqe] at h;exact h
 have HQ0:=HQ.out _ (List.getElem_mem hl0);rw[hqe] at HQ0;have HQ0:=zh HQ0;have hpos:0<qn:=by
  have h1:=HQ0.out.1;have h2:=HST.out.len
  cases ql with
  | nil=>exact absurd rfl h1
  | cons a r=>simp at h2;omega
 have HG0:Hid ((aD ls).getD 0 []=ql):=by
  show _=_;rw[List.getD_eq_getElem?_getD,wordsOf_get? ls 0 hl0,hqe];rfl
 have HLC:Hid (∀ w',Below w.heap.size w w'→w'.cell? ⟨pb,po,none⟩=some (.slice qs qn qc)):=fun w' hb=>by
  have h:=hpc 0 hl0;rw[Nat.add_zero,hqe] at h;exact (hb.cell (p:=⟨pb,po,none⟩) hpb).trans h
 obtain⟨wb,wo,hqs,hwb,hwc⟩:=HST.out.cells hpos;have HWK:Hid (∀ w',Below w.heap.size w w'→∀ k,k<qn→w'.cell? ⟨wb,wo+k,none⟩=some (.string (wdN ql k))):=fun w' hb k hk=>by
  rw[←FE (show k<ql.length by rw[HST.out.len];exact hk)];exact (hb.cell (p:=⟨wb,wo+k,none⟩) hwb).trans (hwc k (by rw[HST.out.len];exact hk))
 clear hpc hqe hwc;subst hqs;have c0:=HLC.out w0 HB0.out;have p0:(0:Int)<(n0:Int):=by omega
 by_cases h3:qn=3
 case neg =>
  have q3:decide ((qn:Int)=3)=false:=by simp;omega
  have q4:((qn:Int) == 3)=false:=by rw[beq_eq_false_iff_ne];omega
  have HF:Hid (fmK (aD ls)=false):=TA (by rw[HG0.out,HST.out.len];exact h3);clear HL HQ HQ0 HST HLC HWK HG0
  go_wp2_with (refine wpList_store_row rfl 25 _ _ rfl w.heap.size zEn rfl rfl 25 _ HZ0.out (aE _ _ _) rfl (bI _ _ _ _ _ _ _) ?_)
  exact bodyPost_ret (aC (P:=Tryz.prog) rfl _ _ w.heap.size 25 _ (0,0) _ rfl (setRow_heap _ _ _ _ _ _ HZ0.out) Tryz.underlying25 rfl (aE _ _ _)) rfl ⟨below_setRow HB0.out zl _,.inl ⟨HF.out,rfl⟩⟩
 subst h3;have c1:w0.cell? ⟨wb,wo,none⟩=some (.string (wdN ql 0)):=HWK.out w0 HB0.out 0 zo;by_cases hsw:wdN ql 0=mN
 case neg =>
  have hs:=mt (vW (wdN ql 0)).2 hsw;have e1:((wdN ql 0).toList == [101,110,118,101,108,111,112,101])=false:=by rw[beq_eq_false_iff_ne];exact hs
  have e2:decide ((wdN ql 0).toList=[101,110,118,101,108,111,112,101])=false:=decide_eq_false hs;have HF:Hid (fmK (aD ls)=false):=MK (by rw[HG0.out];exact hsw);clear HL HQ HQ0 HST HLC HWK HG0 hsw
  go_wp2_with (refine wpList_store_row rfl 25 _ _ rfl w.heap.size zEn rfl rfl 25 _ HZ0.out (aE _ _ _) rfl (bI _ _ _ _ _ _ _) ?_)
  exact bodyPost_ret (aC (P:=Tryz.prog) rfl _ _ w.heap.size 25 _ (0,0) _ rfl (setRow_heap _ _ _ _ _ _ HZ0.out) Tryz.underlying25 rfl (aE _ _ _)) rfl ⟨below_setRow HB0.out zl _,.inl ⟨HF.out,rfl⟩⟩
 have hs:=(vW (wdN ql 0)).1 hsw;have e1:((wdN ql 0).toList == [101,110,118,101,108,111,112,101])=true:=by rw[hs];rfl
 have e2:decide ((wdN ql 0).toList=[101,110,118,101,108,111,112,101])=true:=decide_eq_true hs;have HFM:Hid (fmK (aD ls)=((aD ls).drop 1).all rsK):=ZY (by rw[HWL.out];exact h0) (by rw[HG0.out];exact HST.out.len) (by rw[HG0.out];exact hsw);have HEV:Hid (jQ (aD ls)=⟨0,wdN ql 1,(wdN ql 2).data.toList,((aD ls).drop 1).map rsP⟩):=by show _=_;unfold jQ;rw[HG0.out]
 clear hsw HQ0 HST
 go_upto_region 3 with fail
 clear c0 c1 e1 e2 hs q1 q2;have hn0:0<n0:=by omega
 obtain⟨B,hBe⟩:∃ B,B=w0.heap.size:=⟨_,rfl⟩;have qK:Hid (Blks B w0 w0 []):=Blks.start (Below.refl _ _) (Nat.le_of_eq hBe);have hBW:w.heap.size+1≤B:=by omega
 have HUP:Hid (∀ w',Below B w0 w'→Below w.heap.size w w'):=fun w' hb=>HB0.out.trans (hb.mono zo);have XP:Hid (∀ {w'},Below B w0 w'→w'.cell? ⟨pb,po,none⟩=some (.slice (some ⟨wb,wo,none⟩) 3 qc)):=fun {w'} hb=>HLC.out _ (HUP.out _ hb);have HWC:Hid (∀ w',Below B w0 w'→w'.cell? ⟨wb,wo,none⟩=some (.string (wdN ql 0))∧w'.cell? ⟨wb,wo+1,none⟩=some (.string (wdN ql 1))∧w'.cell? ⟨wb,wo+2,none⟩=some (.string (wdN ql 2))):=fun w' hb =>
  ⟨HWK.out _ (HUP.out _ hb) 0 zo,HWK.out _ (HUP.out _ hb) 1 zo,HWK.out _ (HUP.out _ hb) 2 zo⟩
 go_cut [4] (fun s4 wx=>∃ ga gp capp,s4=.pointer (some ⟨ga,0,none⟩)∧wx.heap[ga]? = some (.cells (enA (wdN ql 1) (.slice (some ⟨gp,0,none⟩) (wdN ql 2).size capp) aH) 25 (0,0))∧PyO wx gp (wdN ql 2)∧(wdN ql 2).size≤capp∧ga≠gp∧B≤ga∧B≤gp∧Below B w0 wx)
 case first =>
  as_aux_lemma =>
  refine wp_region_held_drew (S:=fun w'=>Below B w0 w') (by kernel_rfl) qK.out.b.drew (fun hHeld=>?_);have NQ:=zh qK.out.drew;generalize World.drew w0=wd0 at *;refine zv 0 rfl ?_;refine zv 1 rfl ?_;refine zx 2 rfl (v:=?_) ?_ ?_;rotate_left
  ·intro w' hSw;have kL:=XP.out hSw;go_simp;try with_reducible rfl
  refine zv 3 rfl ?_;refine zx 4 rfl (v:=?_) ?_ ?_;rotate_left
  ·intro w' hSw;have kW:=(HWC.out _ hSw).2.1;go_simp;try with_reducible rfl
  refine zv 5 rfl ?_;refine zv 6 rfl ?_;refine zx 7 rfl (v:=?_) ?_ ?_;rotate_left
  ·intro w' hSw;have kL:=XP.out hSw;go_simp;try with_reducible rfl
  refine zv 8 rfl ?_;refine zx 9 rfl (v:=?_) ?_ ?_;rotate_left
  ·intro w' hSw;have kW:=(HWC.out _ hSw).2.2;go_simp;try with_reducible rfl
  refine zs 10 12 rfl (fun K hK=>?_) rfl (fun K hK=>?_);rw[if_pos (by rfl)];refine kX NQ.out _ rfl (wdN ql 2) rfl ?_;intro gp capp v1 cp fp HCPALL cA CL qB;refine hK.out _ _ cA.out.b fun _=>?_;clear hK K;refine zk 11 rfl (v:=_) (eS (by rfl) 25 [(0,.tmp 32),(1,.tmp 38)] rfl [(0,.string (wdN ql 1)),(1,.slice (some ⟨gp,0,none⟩) (wdN ql 2).size capp)] rfl _ (fun w' _=>qW _ _ _ _ w')) ?rest11n11
  try simp only[Act.put,zu]
  refine zr 12 rfl (fun K hK=>?_);obtain⟨ga,v2,hg,hw,bJ,hU⟩:=cA.out.allocd (.cells zEn 25 (0,0));go_simp
  try rw[hg]
  generalize hq:World.alloc v1 _=q;obtain rfl:v2=q:=hw.symm.trans hq;clear hg hw hq;have sJ:=zh (CL.out.below hU.out CL.out.lt);refine hK.out _ _ bJ.out.b fun _=>?_;clear hK K;refine zr 13 rfl (fun K hK=>?_);rw[if_pos (by rfl)];refine wp_store_row 25 _ _ rfl ga (enA (wdN ql 1) (.slice (some ⟨gp,0,none⟩) (wdN ql 2).size capp) aH) rfl rfl 25 _ (bJ.out.at 0 rfl) (aE _ _ _) rfl (bI _ _ _ _ _ _ _) ?_;generalize hw:World.setRow v2 _ _=v3;have dN:=zh (bJ.out.set 0 rfl (enA (wdN ql 1) (.slice (some ⟨gp,0,none⟩) (wdN ql 2).size capp) aH));rw[hw] at dN;have pD:Hid (PyO v3 gp (wdN ql 2)):=by rw[←hw];exact sJ.out.keep (setRow_other _ _ _ _ (bJ.out.ne 1 0 rfl rfl (by decide))) (Nat.le_of_eq (setRow_size _ _ _).symm)
  clear hw;refine hK.out _ _ dN.out.b fun _=>?_;clear hK K;refine zd ?_ _;go_wp2_with fail;go_meet;exact⟨ga,gp,capp,rfl,dN.out.at 0 rfl,pD.out,HCPALL.out,dN.out.ne 0 1 rfl rfl (by decide),(dN.out.lt 0 rfl).1,(dN.out.lt 1 rfl).1,dN.out.b⟩;obtain⟨ga,v1,hg,hw,cA,qB⟩:=NQ.out.allocd (.cells zEn 25 (0,0));go_simp
  try rw[hg]
  generalize hq:World.alloc wd0 _=q;obtain rfl:v1=q:=hw.symm.trans hq;clear hg hw hq;refine hK.out _ _ cA.out.b fun _=>?_;clear hK K;refine zr 10 rfl (fun K hK=>?_);rw[if_pos (by rfl)];refine kX cA.out _ rfl (wdN ql 2) rfl ?_;intro gp capp v2 cp fp HCPALL bJ sJ hU;refine hK.out _ _ bJ.out.b fun _=>?_;clear hK K;refine zk 11 rfl (v:=_) (eS (by rfl) 25 [(0,.tmp 32),(1,.tmp 38)] rfl [(0,.string (wdN ql 1)),(1,.slice (some ⟨gp,0,none⟩) (wdN ql 2).size capp)] rfl _ (fun w' _=>qW _ _ _ _ w')) ?rest11n12
  try simp only[Act.put,zu]
  refine zr 13 rfl (fun K hK=>?_);rw[if_pos (by rfl)];refine wp_store_row 25 _ _ rfl ga (enA (wdN ql 1) (.slice (some ⟨gp,0,none⟩) (wdN ql 2).size capp) aH) rfl rfl 25 _ (bJ.out.at 1 rfl) (aE _ _ _) rfl (bI _ _ _ _ _ _ _) ?_;generalize hw:World.setRow v2 _ _=v3;have dN:=zh (bJ.out.set 1 rfl (enA (wdN ql 1) (.slice (some ⟨gp,0,none⟩) (wdN ql 2).size capp) aH));rw[hw] at dN;have pD:Hid (PyO v3 gp (wdN ql 2)):=by rw[←hw];exact sJ.out.keep (setRow_other _ _ _ _ (bJ.out.ne 0 1 rfl rfl (by decide))) (Nat.le_of_eq (setRow_size _ _ _).symm)
  clear hw;refine hK.out _ _ dN.out.b fun _=>?_;clear hK K;refine zd ?_ _;go_wp2_with fail;go_meet;exact⟨ga,gp,capp,rfl,dN.out.at 1 rfl,pD.out,HCPALL.out,dN.out.ne 1 0 rfl rfl (by decide),(dN.out.lt 1 rfl).1,(dN.out.lt 0 rfl).1,dN.out.b⟩
 case rest =>
 obtain⟨ga,gp,capp,rfl,hga,hpy,hcp,hne,hBa,hBp,hbc⟩:=hcut;have HGA:=zh hga;have HPY:=zh hpy;have XW:=zh hcp;have HBC:=zh (HUP.out _ hbc);have HZc:Hid (Ah wc w.heap.size zEn 25):=(hbc.block _ zo).trans HZ0.out;clear hga hpy hcp hbc qK HUP XP HWC HLC HWK HZ0 HB0;have hsl:=rJ (t:=57) Tryz.underlying57 ZP wc (some ⟨pb,po,none⟩) n0 cap0 1 zo;rw[show ((1:Nat):Int)=1 from rfl] at hsl;have HL1:=zh ((HL.out.from (k:=1) zo hcap).below HBC.out zl);have HQ1:Hid (∀ q ∈ ls.drop 1,q.l≠[]∧q.n≤q.cap∧q.n≤1000∧∀ s ∈ q.l,s.size≤100000):=fun q hq=>HQ.out q (List.mem_of_mem_drop hq);have HWD:Hid (aD (ls.drop 1)=(aD ls).drop 1):=by show _=_;unfold aD;rw[List.map_drop]
 have hcap1:n0-1≤cap0-1:=by omega
 go_upto_region 5 with fail
 clear hsl HL HQ;rw[←HWD.out] at HFM HEV;clear HWD;have hn1:n0-1≤1000:=by omega
 have hll1:(ls.drop 1).length=n0-1:=HL1.out.len;generalize hsp1:slZ (some ⟨pb,po,none⟩) 1 1 cap0=sp1 at *;generalize hn1e:n0-1=n1 at *;generalize hcp1:cap0-1=cap1 at *;generalize hd1:ls.drop 1=ls1 at *;clear hsp1 hd1;obtain⟨B1,hB1⟩:∃ B1,B1=wc.heap.size:=⟨_,rfl⟩;have hgaw:ga<wc.heap.size:=(Array.getElem?_eq_some_iff.1 HGA.out).1;have hgpw:gp<wc.heap.size:=HPY.out.lt;have FA:Hid (B1≤wc.heap.size∧wc.heap.size≤B1):=⟨by omega,by omega⟩;have hgB:ga<B1:=by omega
 have hgpB:gp<B1:=by omega
 clear hB1
 go_loopw [43] (fun i wr=>∃ (k:Nat) (s:Option Addr) (c:Nat) (l1:List Sg),k≤n1∧i=.int .i64 k∧Hid (RdE ga gp capp B1 (wdN ql 2) (wdN ql 1) (.slice s k c) l1 wr)∧Hid (l1.map pg=((aD ls1).take k).map rsP)∧Hid (((aD ls1).take k).all rsK=true)∧Hid (wc.grownBy wr (some ga))) (fun i _=>n1-(intOf i).toNat)
 case atStart=>exact⟨0,none,0,[],Nat.zero_le _,rfl,⟨HGA.out,HPY.out,OwnG.nil _ _,fun y hy=>(by cases hy),FA.out.1⟩,rfl,rfl,oV _ _⟩
 case round =>
  clear HGA HPY;obtain⟨k,s,c,l1,hk,rfl,HRE,HLP,HAL,HGW⟩:=hrel;have HBR:Hid (Bw w wr):=HBC.out.trans (cV HGW.out zo (by have:=HBC.out.size;omega));have HZr:Hid (Ah wr w.heap.size zEn 25):=(HGW.out.block _ (by have:=HBC.out.size;have:=(Array.getElem?_eq_some_iff.1 HZc.out).1;omega) (fun e=>by injection e with e;omega)).trans HZc.out;have HLK:Hid (l1.length=k):=by
   have h1:=congrArg List.length HLP.out;rw[List.length_map,List.length_map,List.length_take,bD,hll1] at h1;show _=_;omega
  by_cases hlt:k<n1
  ·have hd:decide ((k:Int)<(n1:Int))=true:=by simp;omega
   obtain⟨lb,lo,rfl,hlb,hlc⟩:=HL1.out.cells zo;have hkl:k<ls1.length:=by omega
   obtain⟨xs,xn,xc,xl,hxe⟩:∃ xs xn xc xl,ls1[k]=(⟨xs,xn,xc,xl⟩:Ln):=⟨ls1[k].sp,ls1[k].n,ls1[k].cap,ls1[k].l,rfl⟩;have HXS:Hid (StrsIn wc w.heap.size xs xn xl):=by have h:=HL1.out.each _ (List.getElem_mem hkl);rw[hxe] at h;exact h
   have HXQ:=HQ1.out _ (List.getElem_mem hkl);rw[hxe] at HXQ;have HXQ:=zh HXQ;have HWX:Hid ((aD ls1)[k]? = some xl):=by show _=_;rw[wordsOf_get? ls1 k hkl,hxe]
   have hgw:w.heap.size≤ga:=by omega
   have YA:Hid (Below w.heap.size wc wr):=cV HGW.out hgw (by have:=HBC.out.size;omega);have cL:wr.cell? ⟨lb,lo+k,none⟩=some (.slice xs xn xc):=by
    have h:=hlc k hkl;rw[hxe] at h;exact (YA.out.cell (p:=⟨lb,lo+k,none⟩) hlb).trans h
   have p1:(0:Int)≤(k:Int):=by omega
   have p2:(k:Int)<(n1:Int):=by omega
   have HCS:=zh (BF xs xn xc xl wr ((HXS.out.below YA.out zl).more HBR.out.size) HXQ.out.2.1 (Nat.le_trans HXQ.out.2.2.1 (by decide)) (fun s hs=>by have:=HXQ.out.2.2.2 s hs;omega));clear hlc hxe hkl HXS HXQ;go_wp2_with fail;refine HCS.out.mono ?_;rintro e w5 ⟨x,rfl,hxt,hxp,hb⟩;have HXT:=zh hxt;have HXP:=zh hxp;have HB5:=zh hb;clear hxt hxp hb HCS cL;have aAy:=zh (HRE.out.below HB5.out);have hs5:=HB5.out.size;have hkr:B1≤wr.heap.size:=HRE.out.k;have HZG:=zh (heap_alloc_new w5 (.cells zG.toArray 50));have HOX:=zh (HXT.out.r)
   go_upto_region 8 with (refine wpList_store_row rfl 50 _ _ rfl w5.heap.size _ rfl rfl 50 _ HZG.out (aS HOX.out) (bR HOX.out) (bG x) ?_;rw[aK];generalize hwA:World.alloc w5 _=wA;have TM:Hid (GB wA w5.heap.size x):=(by rw[←hwA];exact GB.new w5 x);have HBA:Hid (Bw w5 wA):=(by rw[←hwA];exact (Below.refl _ _).alloc zl _);clear hwA)
   clear HZG;obtain⟨gx,hgx⟩:∃ gx,gx=w5.heap.size:=⟨_,rfl⟩;have HGX:Hid (GB wA gx x):=by rw[hgx];exact TM.out
   rw[←hgx];clear hgx TM;have NT:=zh (aAy.out.below HBA.out);have XD:=zh ((HXT.out.below HBA.out).base hkr);have RY:=zh (HB5.out.trans (HBA.out.mono hs5));have HGWA:Hid (wc.grownBy wA (some ga)):=dI HGW.out (RY.out.mono (by have:=FA.out;omega));have aBv:=zh (HBR.out.trans (RY.out.mono HBR.out.size));have HZA:Hid (Ah wA w.heap.size zEn 25):=(RY.out.block _ (Array.getElem?_eq_some_iff.1 HZr.out).1).trans HZr.out;clear aAy HRE HXT HBA HB5 RY HGW HBR HZr YA
   cases hr:rsK xl
   ·have HF:Hid (fmK (aD ls)=false):=by show _=_;rw[HFM.out];exact TI HWX.out hr
    clear hr HXP NT XD HGX HLP HAL
    go_wp2_with (refine wpList_store_row rfl 25 _ _ rfl w.heap.size zEn rfl rfl 25 _ HZA.out (aE _ _ _) rfl (bI _ _ _ _ _ _ _) ?_)
    exact bodyPost_ret (aC (P:=Tryz.prog) rfl _ _ w.heap.size 25 _ (0,0) _ rfl (setRow_heap _ _ _ _ _ _ HZA.out) Tryz.underlying25 rfl (aE _ _ _)) rfl ⟨below_setRow aBv.out zl _,.inl ⟨HF.out,rfl⟩⟩
   ·have HPX:=zh (HXP.out hr);have HALk:Hid (((aD ls1).take (k+1)).all rsK=true):=by show _=_;rw[EU HWX.out,HAL.out,hr];rfl
    have HLPk:Hid ((l1++[x]).map pg=((aD ls1).take (k+1)).map rsP):=by show _=_;rw[List.map_append,HLP.out,List.take_add_one,HWX.out,List.map_append];simp[HPX.out]
    clear hr HXP HPX HLP HAL aBv HZA;have cS:=iW NT.out.box;have hkA:=NT.out.k
    go_upto_region 11 with (first
     | (refine wpList_load_row rfl 50 _ rfl gx rfl 50 _ (0,0) _ HGX.out Tryz.underlying50 rfl (aS HOX.out) ?_)
     | (refine aT rfl 23 1 [(0,.tmp 57)] rfl [(0,.agg (aX x).toArray)] rfl _ _ (rH _ x HOX.out) ?_;generalize hwF:World.alloc wA _=wF;have HGF:Hid (GB wF wA.heap.size x):=(by rw[←hwF];exact GB.new _ _);have HBF:Hid (Bw wA wF):=(by rw[←hwF];exact aA _ _);have AF:=zh (NT.out.below HBF.out);have aAo:=zh (XD.out.below HBF.out);have hkF:=AF.out.k;clear hwF)
     | (at_builtin;refine cZ rfl (.tmp 56) (.tmp 58) rfl B1 _ l1 k HLK.out.symm rfl AF.out.o wA.heap.size x rfl HGF.out HOX.out zo hkF ?_;intro sp8 cap8 w8 HO8 HB8 HG8;have wY:=zh (((HB8.out.block _ hgB).trans AF.out.box));have cS:=iW wY.out;have fS:=frozen_of_row _ _ 2 _ _ wY.out))
    have HO9:=zh (HO8.out.setOther hgB 2 (.slice sp8 (k+1) cap8));have HG9:Hid ((w8.setCell ⟨ga,2,none⟩ (.slice sp8 (k+1) cap8)).heap[ga]? = some (.cells (enA (wdN ql 1) (.slice (some ⟨gp,0,none⟩) (wdN ql 2).size capp) (.slice sp8 (k+1) cap8)) 25 (0,0))):=by
     have h:=heap_setCell_same w8 ga 2 _ _ (.slice sp8 (k+1) cap8) wY.out;rw[uC] at h;exact h
    have HT9:Hid (∀ y ∈ l1++[x],SgT (w8.setCell ⟨ga,2,none⟩ (.slice sp8 (k+1) cap8)) B1 y):=fun y hy=>by
     rcases List.mem_append.1 hy with h | h
     ·exact ((AF.out.t y h).grown AF.out.o HG8.out).setCell wY.out oQ 2 _
     ·rw[List.mem_singleton.1 h];exact (aAo.out.grown AF.out.o HG8.out).setCell wY.out oQ 2 _
    have HP9:=zh ((AF.out.py.below HB8.out hgpB).keep (heap_setCell_other _ _ _ _ (Ne.symm hne)) (jD _ _ _));have hk9:B1≤(w8.setCell ⟨ga,2,none⟩ (.slice sp8 (k+1) cap8)).heap.size:=Nat.le_trans (Nat.le_trans hkF HB8.out.size) (jD _ _ _);have HW9:Hid (wc.grownBy (w8.setCell ⟨ga,2,none⟩ (.slice sp8 (k+1) cap8)) (some ga)):=bL (dI (dI HGWA.out (HBF.out.mono (by have:=FA.out;omega))) (HB8.out.mono (by have:=FA.out;omega))) _ _;generalize World.setCell w8 _ _=w9 at *;clear cS fS AF aAo NT XD HGF HBF HO8 HB8 HG8 wY;go_wp2_with fail;go_roundw
    case rel=>exact⟨k+1,sp8,cap8,l1++[x],by omega,by go_num,⟨HG9.out,HP9.out,HO9.out,HT9.out,hk9⟩,HLPk.out,HALk.out,HW9.out⟩
    case measure=>simp[intOf] <;> omega
  ·obtain rfl:k=n1:=by omega
   have hd1:decide ((k:Int)<(k:Int))=false:=by simp
   have HTL:Hid ((aD ls1).take k=aD ls1):=by show _=_;rw[List.take_of_length_le];rw[bD,hll1];exact Nat.le_refl _
   rw[HTL.out] at HLP HAL;have HF:Hid (fmK (aD ls)=true):=by show _=_;rw[HFM.out];exact HAL.out
   have hne2:w.heap.size≠gp:=by omega
   have HPF:=zh (HRE.out.py.keep (setRow_other _ _ _ _ (Ne.symm hne2)) (Nat.le_of_eq (setRow_size _ _ _).symm));have HFG:Hid (OwnG (wr.setRow w.heap.size (enA (wdN ql 1) (.slice (some ⟨gp,0,none⟩) (wdN ql 2).size capp) (.slice s k c))) B1 (.slice s k c) l1):=⟨World.ownsRow.kept HRE.out.o.1 (bT wr _ _) (cN HRE.out.o.1 HZr.out (by decide)),HRE.out.o.2⟩;have HFT:Hid (∀ y ∈ l1,SgT (wr.setRow w.heap.size (enA (wdN ql 1) (.slice (some ⟨gp,0,none⟩) (wdN ql 2).size capp) (.slice s k c))) B1 y):=fun y hy=>(HRE.out.t y hy).setRow HZr.out oQ _;have hwB1:w.heap.size≤B1:=by omega
   have hwgp:w.heap.size≤gp:=by omega
   go_wp2_with (first
    | (refine wpList_load_row rfl 25 _ rfl ga rfl 25 _ (0,0) _ HRE.out.box Tryz.underlying25 rfl (aE _ _ _) ?_)
    | (refine wpList_store_row rfl 25 _ _ rfl w.heap.size (enA (wdN ql 1) (.slice (some ⟨gp,0,none⟩) (wdN ql 2).size capp) (.slice s k c)) rfl rfl 25 _ HZr.out (aE _ _ _) rfl (bI _ _ _ _ _ _ _) ?_))
   refine bodyPost_ret (aC (P:=Tryz.prog) rfl _ _ w.heap.size 25 _ (0,0) _ rfl (setRow_heap _ _ _ _ _ _ HZr.out) Tryz.underlying25 rfl (aE _ _ _)) rfl ⟨below_setRow HBR.out zl _,.inr ⟨HF.out,gp,capp,s,k,c,l1,?_⟩⟩;rw[HG0.out,HEV.out];exact⟨rfl,XW.out,HPF.out,hwgp,HFG.out.base hwB1,fun y hy=>(HFT.out y hy).base hwB1,HLK.out,HLP.out⟩
def DcE (r:Ev) (w:World) (e:Ending) (w':World):Prop:=∃ sp n cap sq m cq l,e=.returned (.tuple #[.agg (enA r.t (.slice sp n cap) (.slice sq m cq)),.int .i64 (r.E:Nat)])∧Hid (BSrc w' w'.heap.size sp n cap r.b∧SgsIn w' w'.heap.size sq m cq l∧l.map pg=r.L∧(∀ y ∈ r.L,y.l.length≤1000∧y.q.length≤1000)∧m≤1000)∧Below w.heap.size w w'
theorem DcE.no {w w':World} (E:Nat) (hb:Below w.heap.size w w'):DcE (evN E) w (.returned (.tuple #[.agg zEn,.int .i64 (E:Nat)])) w' :=
 ⟨none,0,0,none,0,0,[],rfl,⟨⟨rfl,fun h=>absurd h zo⟩,SgsIn.nil _ _,rfl,fun y hy=>(by cases hy),by omega⟩,hb⟩
theorem DI {w:World} {B:Nat} {sq:Option Addr} {m cq:Nat} {l:List Sg} (h:OwnG w B (.slice sq m cq) l) (ht:∀ y ∈ l,SgT w B y) (hl:l.length=m):SgsIn w w.heap.size sq m cq l:=h.sgs hl fun y hy=>(ht y hy).dat
theorem CU {t:ByteArray} {b:List UInt8} {L:List Pg} (h:fM t b L=true):(∀ y ∈ L,y.l.length≤1000∧y.q.length≤1000)∧L.length≤8:=by
 obtain⟨_,_,h3,h4⟩:=AP h;exact⟨fun y hy=>by obtain⟨_,_,h5,h6⟩:=SI (h4 y hy);omega,h3⟩
theorem EJ {r:Nat × List (List ByteArray)} (h:r.1≠0):MY r=evN r.1:=by unfold MY;rw[if_pos h]
theorem zY {r:Nat × List (List ByteArray)} (h:r.1=0) (hf:fmK r.2=false):MY r=evN 2:=by unfold MY;rw[if_neg (fun k=>k h),if_neg (by rw[hf];simp)]
theorem EK {r:Nat × List (List ByteArray)} (h:r.1=0) (hf:fmK r.2=true) (hv:fM (jQ r.2).t (jQ r.2).b (jQ r.2).L=false):MY r=evN 1:=by unfold MY;rw[if_neg (fun k=>k h),if_pos hf,if_neg (by rw[hv];simp)]
theorem MX {r:Nat × List (List ByteArray)} (h:r.1=0) (hf:fmK r.2=true) (hv:fM (jQ r.2).t (jQ r.2).b (jQ r.2).L=true):MY r=jQ r.2:=by unfold MY;rw[if_neg (fun k=>k h),if_pos hf,if_pos hv]
theorem YV {q:List ByteArray} (h:∀ s ∈ q,s.size≤32768) (k:Nat):(wdN q k).size≤32768:=by
 unfold wdN;rw[List.getD_eq_getElem?_getD]
 cases hk:q[k]? with
 | none=>exact Nat.zero_le _
 | some s=>exact h s (List.mem_of_getElem? hk)
theorem TB {L:List (List ByteArray)} (h:∀ q ∈ L,∀ s ∈ q,s.size≤32768):(jQ L).t.size≤maxLen:=by
 have h1:(wdN (L.getD 0 []) 1).size≤32768:=YV (fun s hs=>by
  rw[List.getD_eq_getElem?_getD] at hs
  cases hk:L[0]? with
  | none=>rw[hk] at hs;cases hs
  | some q=>rw[hk] at hs;exact h q (List.mem_of_getElem? hk) s hs) 1
 show (wdN (L.getD 0 []) 1).size≤maxLen;unfold maxLen;omega
theorem CD (sp:Option Addr) (n cap:Nat) (l:List UInt8) (w:World) (hs:BSrc w w.heap.size sp n cap l) (hk:KayIn w) (hk0:4<w.heap.size) :
 Calls Tryz.prog 9 #[.slice sp n cap] w (DcE (MY (qJ ⟨l.toArray⟩)) w):=by
 have HS:=zh hs;have HK:=zh hk;clear hs hk;have hbe:=fW
 go_enter Tryz.func9,Tryz.ntmps9
 go_upto_region 1 with fail
 generalize hw0:World.alloc w _=w0;have HR0:Hid (Ah w0 w.heap.size zEn 25):=by rw[←hw0];exact heap_alloc_new _ _
 have HB0:Hid (Bw w w0):=by rw[←hw0];exact (Below.refl _ _).alloc zl _
 have hl0:w.heap.size<w0.heap.size:=(Array.getElem?_eq_some_iff.1 HR0.out).1;clear hw0;have HDC:=zh (II sp n cap l w0 ((HS.out.below HB0.out zl).more zo));have HGD:=zh (fun h=>zZ (S:=⟨l.toArray⟩) h);clear HS;generalize qJ ⟨l.toArray⟩=D at *;go_wp2_with fail;refine HDC.out.mono ?_;rintro e w1 ⟨sp1,cap1,ls,hws,rfl,hrow,heach,hb1⟩;have HWS:=zh hws;have HR1:Hid (Ah w1 w.heap.size zEn 25):=(hb1.block _ hl0).trans HR0.out;have HB1:=zh (HB0.out.trans (hb1.mono HB0.out.size));have HLI:=zh (iS hrow heach);have HCP:Hid (ls.length≤cap1):=qQ hrow;have HCE:Hid (∀ q ∈ ls,q.n≤q.cap):=fun q hq=>qQ (heach q hq);have hl1:w.heap.size<w1.heap.size:=Nat.lt_of_lt_of_le hl0 hb1.size;clear hws hrow heach hb1 HDC HR0 HB0 hl0;by_cases hc:D.1=0
 case neg =>
  have hd:decide ((D.1:Int)=0)=false:=by rw[decide_eq_false_iff_not];omega
  have hd2:((D.1:Int) == 0)=false:=by rw[beq_eq_false_iff_ne];omega
  have hd3:((D.1:Int) != 0)=true:=by rw[bne_iff_ne];omega
  have tB:=zh (EJ hc);clear HLI HCP HCE HWS HGD;have HZZ:Hid ((w1.setRow w.heap.size zEn).heap[w.heap.size]? = some (.cells zEn 25 (0,0))):=setRow_heap _ _ _ _ _ _ HR1.out;have HBZ:Hid (Below w.heap.size w (w1.setRow w.heap.size zEn)):=below_setRow HB1.out zl _
  go_wp2_with (refine wpList_store_row rfl 25 _ _ rfl w.heap.size zEn rfl rfl 25 _ HR1.out (aE _ _ _) rfl (bI _ _ _ _ _ _ _) ?_)
  refine bodyPost_ret (aC (P:=Tryz.prog) rfl _ _ w.heap.size 25 _ (0,0) _ rfl HZZ.out Tryz.underlying25 rfl (aE _ _ _)) rfl ?_;rw[tB.out];exact DcE.no _ HBZ.out
 have hgd:=HGD.out hc;have hd:decide ((D.1:Int)=0)=true:=by rw[decide_eq_true_iff];omega
 have hd2:((D.1:Int) == 0)=true:=by rw[beq_iff_eq];omega
 have hd3:((D.1:Int) != 0)=false:=by rw[bne_eq_false_iff_eq];omega
 rw[←HWS.out] at hgd;have HGQ:=zh hgd;have HMW:∀ q ∈ ls,q.l ∈ aD ls:=fun q hq=>List.mem_map.2 ⟨q,hq,rfl⟩;have HRL:=zh (sQ sp1 ls.length cap1 ls w1 HLI.out HCP.out (by rw[←bD];exact hgd.1) (fun q hq=>⟨(hgd.2 _ (HMW q hq)).1,HCE.out q hq,by rw[←(HLI.out.each q hq).len];have:=(hgd.2 _ (HMW q hq)).2.1;omega,fun s hs=>by have:=(hgd.2 _ (HMW q hq)).2.2 s hs;omega⟩));have HDN:=zh (fun h=>zY (r:=D) hc h);have HDB:=zh (fun h h2=>EK (r:=D) hc h h2);have HDO:=zh (fun h h2=>MX (r:=D) hc h h2);rw[←HWS.out] at HDN HDB HDO;have HET:=zh (TB (L:=aD ls) (fun q hq s hs=>(hgd.2 q hq).2.2 s hs));clear hgd HMW HLI HCP HCE HGD hc HWS HGQ;generalize aD ls=L at *;go_wp2_with fail;clear hd hd2 hd3;refine HRL.out.mono ?_;rintro e w2 ⟨hb2,hcase⟩;have HB2':=zh hb2;have HR2:Hid (Ah w2 w.heap.size zEn 25):=(hb2.block _ hl1).trans HR1.out;have HB2:=zh (HB1.out.trans (hb2.mono HB1.out.size));have hl2:w.heap.size<w2.heap.size:=Nat.lt_of_lt_of_le hl1 hb2.size;clear HRL HR1 HB1 hb2;have HZS:=zh (heap_alloc_new w2 (.cells zEn 25));rcases hcase with ⟨hf,rfl⟩ | ⟨hf,gp,capp,sq,m,cq,l',rfl,hcp,hpy,hgp,hog,hst,hlm,hlp⟩
 ·have tB:=zh (HDN.out hf);clear HDN HDB HDO hf HET
  go_upto_region 5 with (refine wpList_store_row rfl 25 _ _ rfl w2.heap.size zEn rfl rfl 25 _ HZS.out (aE _ _ _) rfl (bI _ _ _ _ _ _ _) ?_;rw[aK];generalize hw3:World.alloc w2 _=w3;have HBD:Hid (Bw w2 w3):=(by rw[←hw3];exact aA _ _);clear hw3 HZS)
  have HR3:=zh ((HBD.out.block _ hl2).trans HR2.out);have HB3:=zh (HB2.out.trans (HBD.out.mono HB2.out.size));clear HBD HB2 HR2;have HZZ:Hid ((w3.setRow w.heap.size zEn).heap[w.heap.size]? = some (.cells zEn 25 (0,0))):=setRow_heap _ _ _ _ _ _ HR3.out;have HBZ:Hid (Below w.heap.size w (w3.setRow w.heap.size zEn)):=below_setRow HB3.out zl _
  go_wp2_with (refine wpList_store_row rfl 25 _ _ rfl w.heap.size zEn rfl rfl 25 _ HR3.out (aE _ _ _) rfl (bI _ _ _ _ _ _ _) ?_)
  refine bodyPost_ret (aC (P:=Tryz.prog) rfl _ _ w.heap.size 25 _ (0,0) _ rfl HZZ.out Tryz.underlying25 rfl (aE _ _ _)) rfl ?_;rw[tB.out];exact DcE.no _ HBZ.out
 ·have XW:=zh hcp;have HPY:=zh hpy;have HOG:=zh hog;have HST:=zh hst;have HLM:=zh hlm;have HLP:=zh hlp;have HGP:=zh hgp;have TQ:=zh (HDB.out hf);have TP:=zh (HDO.out hf);generalize hS2:wdN (L.getD 0 []) 2=S2 at *;have HBB:Hid ((jQ L).b=S2.data.toList):=by rw[←hS2];rfl
  clear hS2;clear HDN HDB HDO hf hcp hpy hgp hog hst hlm hlp
  go_upto_region 5 with (refine wpList_store_row rfl 25 _ _ rfl w2.heap.size (enA (jQ L).t (.slice (some ⟨gp,0,none⟩) S2.size capp) (.slice sq m cq)) rfl rfl 25 _ HZS.out (aE _ _ _) rfl (bI _ _ _ _ _ _ _) ?_;rw[aK];generalize hw3:World.alloc w2 _=w3;have HX3':Hid (w3.heap[w2.heap.size]? = some (.cells (enA (jQ L).t (.slice (some ⟨gp,0,none⟩) S2.size capp) (.slice sq m cq)) 25 (0,0))):=(by rw[←hw3];exact heap_alloc_new _ _);have HBD:Hid (Bw w2 w3):=(by rw[←hw3];exact aA _ _);clear hw3 HZS)
  obtain⟨g6,hg6⟩:∃ g6,g6=w2.heap.size:=⟨_,rfl⟩;have HX3:Hid (Ah w3 g6 (enA (jQ L).t (.slice (some ⟨gp,0,none⟩) S2.size capp) (.slice sq m cq)) 25):=by rw[hg6];exact HX3'.out
  rw[←hg6];clear hg6 HX3';have HR3:=zh ((HBD.out.block _ hl2).trans HR2.out);have HB3:=zh (HB2.out.trans (HBD.out.mono HB2.out.size));have HPY3:=zh (HPY.out.below HBD.out HPY.out.lt);have HOG3:=zh (HOG.out.below HBD.out);have YI:Hid (∀ y ∈ l',SgT w3 w1.heap.size y):=fun y hy=>(HST.out y hy).below HBD.out;clear HBD HB2 HR2 HPY HOG HST;have HCV:=zh (fI (jQ L).t (some ⟨gp,0,none⟩) S2.size capp (jQ L).b sq m cq l' w3 HET.out (by rw[HBB.out];exact HPY3.out.src XW.out) (DI HOG3.out YI.out HLM.out) (HK.out.below HB3.out hk0) (Nat.lt_of_lt_of_le hk0 HB3.out.size));rw[HLP.out] at HCV
  go_wp2_with (refine wpList_load_row rfl 25 _ rfl g6 rfl 25 _ (0,0) _ HX3.out Tryz.underlying25 rfl (aE _ _ _) ?_)
  refine HCV.out.mono ?_;rintro e w4 ⟨rfl,hb4⟩;have HBD:=zh hb4;have hl3:w.heap.size<w3.heap.size:=(Array.getElem?_eq_some_iff.1 HR3.out).1;have HR4:=zh ((HBD.out.block _ hl3).trans HR3.out);have HB4:=zh (HB3.out.trans (HBD.out.mono HB3.out.size));have HX4:Hid (Ah w4 g6 (enA (jQ L).t (.slice (some ⟨gp,0,none⟩) S2.size capp) (.slice sq m cq)) 25):=(HBD.out.block _ (Array.getElem?_eq_some_iff.1 HX3.out).1).trans HX3.out;have HPY4:=zh (HPY3.out.below HBD.out HPY3.out.lt);have HOG4:=zh (HOG3.out.below HBD.out);have HST4:Hid (∀ y ∈ l',SgT w4 w1.heap.size y):=fun y hy=>(YI.out y hy).below HBD.out;clear hb4 HBD HCV HR3 HB3 HX3 HPY3 HOG3 YI
  cases hv:fM (jQ L).t (jQ L).b (jQ L).L
  ·have tB:=zh (TQ.out hv);clear TQ TP hv HX4 HPY4 HOG4 HST4;have HZZ:Hid ((w4.setRow w.heap.size zEn).heap[w.heap.size]? = some (.cells zEn 25 (0,0))):=setRow_heap _ _ _ _ _ _ HR4.out;have HBZ:Hid (Below w.heap.size w (w4.setRow w.heap.size zEn)):=below_setRow HB4.out zl _
   go_wp2_with (refine wpList_store_row rfl 25 _ _ rfl w.heap.size zEn rfl rfl 25 _ HR4.out (aE _ _ _) rfl (bI _ _ _ _ _ _ _) ?_)
   refine bodyPost_ret (aC (P:=Tryz.prog) rfl _ _ w.heap.size 25 _ (0,0) _ rfl HZZ.out Tryz.underlying25 rfl (aE _ _ _)) rfl ?_;rw[tB.out];exact DcE.no _ HBZ.out
  ·have tB:=zh (TP.out hv);have HLE:=zh (CU hv);clear TQ TP hv;have hne:gp≠w.heap.size:=by have:=HGP.out;omega
   have HFF:Hid ((w4.setRow w.heap.size (enA (jQ L).t (.slice (some ⟨gp,0,none⟩) S2.size capp) (.slice sq m cq))).heap[w.heap.size]? = some (.cells (enA (jQ L).t (.slice (some ⟨gp,0,none⟩) S2.size capp) (.slice sq m cq)) 25 (0,0))∧Below w.heap.size w (w4.setRow w.heap.size (enA (jQ L).t (.slice (some ⟨gp,0,none⟩) S2.size capp) (.slice sq m cq))) ∧
    PyO (w4.setRow w.heap.size (enA (jQ L).t (.slice (some ⟨gp,0,none⟩) S2.size capp) (.slice sq m cq))) gp S2∧SgsIn (w4.setRow w.heap.size (enA (jQ L).t (.slice (some ⟨gp,0,none⟩) S2.size capp) (.slice sq m cq))) (w4.setRow w.heap.size (enA (jQ L).t (.slice (some ⟨gp,0,none⟩) S2.size capp) (.slice sq m cq))).heap.size sq m cq l'):=by
    refine⟨setRow_heap _ _ _ _ _ _ HR4.out,below_setRow HB4.out zl _,HPY4.out.keep (setRow_other _ _ _ _ hne) (Nat.le_of_eq (setRow_size _ _ _).symm),DI (B:=w1.heap.size) ⟨World.ownsRow.kept HOG4.out.1 (bT w4 _ _) (cN HOG4.out.1 HR4.out (by decide)),HOG4.out.2⟩ (fun y hy=>(HST4.out y hy).setRow HR4.out oQ _) HLM.out⟩
   go_wp2_with (first
    | (refine wpList_load_row rfl 25 _ rfl g6 rfl 25 _ (0,0) _ HX4.out Tryz.underlying25 rfl (aE _ _ _) ?_)
    | (refine wpList_store_row rfl 25 _ _ rfl w.heap.size (enA (jQ L).t (.slice (some ⟨gp,0,none⟩) S2.size capp) (.slice sq m cq)) rfl rfl 25 _ HR4.out (aE _ _ _) rfl (bI _ _ _ _ _ _ _) ?_))
   generalize World.setRow w4 _ _=w5 at *;refine bodyPost_ret (aC (P:=Tryz.prog) rfl _ _ w.heap.size 25 _ (0,0) _ rfl HFF.out.1 Tryz.underlying25 rfl (aE _ _ _)) rfl ?_;rw[tB.out];exact⟨_,_,_,_,_,_,l',rfl,⟨by rw[HBB.out];exact HFF.out.2.2.1.src XW.out,HFF.out.2.2.2,HLP.out,HLE.out.1,by have h:=HLE.out.2;rw[←HLP.out,List.length_map,HLM.out] at h;omega⟩,HFF.out.2.1⟩
end Go.Proofs.YtaeobegaodhpcaaGreatDoor
