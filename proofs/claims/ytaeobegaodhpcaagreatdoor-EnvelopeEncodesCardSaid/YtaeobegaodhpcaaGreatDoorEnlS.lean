/-
  Envelopes: the walk of the reference's Decode (condition: the bytes stand in memory).
-/
import Derived.Test.YtaeobegaodhpcaaGreatDoorZip
import Derived.Test.YtaeobegaodhpcaaGreatDoorQ29
import Derived.Test.YtaeobegaodhpcaaGreatDoorQ30
set_option maxRecDepth 100000
set_option maxHeartbeats 8000000
namespace Go.Proofs.YtaeobegaodhpcaaGreatDoor
open Go.RowKit Go.Proofs.YtaeobegaodhpcaaGreatDoor.One
theorem yL (sp:Option Addr) (n cap:Nat) (l:List UInt8) (w:World) (hs:BSrc w w.heap.size sp n cap l) :
 Calls Tryz.prog 10 #[.slice sp n cap] w (DcE (MY (qJ ⟨l.toArray⟩)) w):=by
 have HS:=zh hs;clear hs;have hbe:=fW
 go_enter Tryz.func10,Tryz.ntmps10
 go_upto_region 1 with fail
 generalize hw0:World.alloc w _=w0;have HR0:Hid (Ah w0 w.heap.size zEn 25):=by rw[←hw0];exact heap_alloc_new _ _
 have HB0:Hid (Bw w w0):=by rw[←hw0];exact (Below.refl _ _).alloc zl _
 have hl0:w.heap.size<w0.heap.size:=(Array.getElem?_eq_some_iff.1 HR0.out).1;clear hw0;have HDC:=zh (vB sp n cap l w0 ((HS.out.below HB0.out zl).more zo));have HGD:=zh (fun h=>zZ (S:=⟨l.toArray⟩) h);clear HS;generalize qJ ⟨l.toArray⟩=D at *;go_wp2_with fail;refine HDC.out.mono ?_;rintro e w1 ⟨sp0,cap0,ls,hws,rfl,hrow,heach,hb1⟩;have HWS:=zh hws;have HR1:Hid (Ah w1 w.heap.size zEn 25):=(hb1.block _ hl0).trans HR0.out;have HB1:=zh (HB0.out.trans (hb1.mono HB0.out.size));have HL:=zh (iS hrow heach);have HCP:Hid (ls.length≤cap0):=qQ hrow;have HCE:Hid (∀ q ∈ ls,q.n≤q.cap):=fun q hq=>qQ (heach q hq);have hl1:w.heap.size<w1.heap.size:=Nat.lt_of_lt_of_le hl0 hb1.size;clear hws hrow heach hb1 HDC HR0 HB0 hl0;by_cases hc:D.1=0
 case neg =>
  have hd:decide ((D.1:Int)=0)=false:=by rw[decide_eq_false_iff_not];omega
  have hd2:((D.1:Int) == 0)=false:=by rw[beq_eq_false_iff_ne];omega
  have hd3:((D.1:Int) != 0)=true:=by rw[bne_iff_ne];omega
  have tB:=zh (EJ hc);clear HL HCP HCE HWS HGD;have HZZ:Hid ((w1.setRow w.heap.size zEn).heap[w.heap.size]? = some (.cells zEn 25 (0,0))):=setRow_heap _ _ _ _ _ _ HR1.out;have HBZ:Hid (Below w.heap.size w (w1.setRow w.heap.size zEn)):=below_setRow HB1.out zl _
  go_wp2_with (refine wpList_store_row rfl 25 _ _ rfl w.heap.size zEn rfl rfl 25 _ HR1.out (aE _ _ _) rfl (bI _ _ _ _ _ _ _) ?_)
  refine bodyPost_ret (aC (P:=Tryz.prog) rfl _ _ w.heap.size 25 _ (0,0) _ rfl HZZ.out Tryz.underlying25 rfl (aE _ _ _)) rfl ?_;rw[tB.out];exact DcE.no _ HBZ.out
 have hgd:=HGD.out hc;have hd:decide ((D.1:Int)=0)=true:=by rw[decide_eq_true_iff];omega
 have hd2:((D.1:Int) == 0)=true:=by rw[beq_iff_eq];omega
 have hd3:((D.1:Int) != 0)=false:=by rw[bne_eq_false_iff_eq];omega
 rw[←HWS.out] at hgd;have HMW:∀ q ∈ ls,q.l ∈ aD ls:=fun q hq=>List.mem_map.2 ⟨q,hq,rfl⟩;have HQ:Hid (∀ q ∈ ls,q.l≠[]∧q.n≤q.cap∧q.n≤1000∧∀ s ∈ q.l,s.size≤100000):=fun q hq=>⟨(hgd.2 _ (HMW q hq)).1,HCE.out q hq,by rw[←(HL.out.each q hq).len];have:=(hgd.2 _ (HMW q hq)).2.1;omega,fun s hs=>by have:=(hgd.2 _ (HMW q hq)).2.2 s hs;omega⟩;have hcap:ls.length≤cap0:=HCP.out;have hlen:ls.length≤1000:=by rw[←bD];exact hgd.1
 have HDN:=zh (fun h=>zY (r:=D) hc h);have HDB:=zh (fun h h2=>EK (r:=D) hc h h2);have HDO:=zh (fun h h2=>MX (r:=D) hc h h2);rw[←HWS.out] at HDN HDB HDO;have HET:=zh (TB (L:=aD ls) (fun q hq s hs=>(hgd.2 q hq).2.2 s hs));have HWL:Hid ((aD ls).length=ls.length):=bD ls;have hll:ls.length=ls.length:=rfl;clear hgd HMW HCP HCE HGD hc HWS hll;obtain⟨n0,hn0e⟩:∃ n0,n0=ls.length:=⟨_,rfl⟩;rw[←hn0e] at HL hcap hlen HWL;rw[←hn0e];have hll:ls.length=n0:=hn0e.symm;clear hn0e;have HRw:=HR1;by_cases h0:n0=0
 ·have q1:decide ((n0:Int)=0)=true:=by simp;omega
  have q2:((n0:Int) == 0)=true:=by rw[beq_iff_eq];omega
  have tB:=zh (HDN.out (SZ (by rw[HWL.out];exact h0)));clear HL HQ HDN HDB HDO HET;have HZZ:Hid ((w1.setRow w.heap.size zEn).heap[w.heap.size]? = some (.cells zEn 25 (0,0))):=setRow_heap _ _ _ _ _ _ HR1.out;have HBZ:Hid (Below w.heap.size w (w1.setRow w.heap.size zEn)):=below_setRow HB1.out zl _
  go_wp2_with (refine wpList_store_row rfl 25 _ _ rfl w.heap.size zEn rfl rfl 25 _ HR1.out (aE _ _ _) rfl (bI _ _ _ _ _ _ _) ?_)
  refine bodyPost_ret (aC (P:=Tryz.prog) rfl _ _ w.heap.size 25 _ (0,0) _ rfl HZZ.out Tryz.underlying25 rfl (aE _ _ _)) rfl ?_;rw[tB.out];exact DcE.no _ HBZ.out
 have q1:decide ((n0:Int)=0)=false:=by simp;omega
 have q2:((n0:Int) == 0)=false:=by rw[beq_eq_false_iff_ne];omega
 obtain⟨pb,po,rfl,hpb,hpc⟩:=HL.out.cells zo;have hlp:0<ls.length:=by omega
 obtain⟨qs,qn,qc,ql,hqe⟩:∃ qs qn qc ql,ls[0]=(⟨qs,qn,qc,ql⟩:Ln):=⟨ls[0].sp,ls[0].n,ls[0].cap,ls[0].l,rfl⟩;have HST:Hid (StrsIn w1 w1.heap.size qs qn ql):=by have h:=HL.out.each _ (List.getElem_mem hlp);rw[hqe] at h;exact h
 have HQ0:=HQ.out _ (List.getElem_mem hlp);rw[hqe] at HQ0;have HQ0:=zh HQ0;have hpos:0<qn:=by
  have h1:=HQ0.out.1;have h2:=HST.out.len
  cases ql with
  | nil=>exact absurd rfl h1
  | cons a r=>simp at h2;omega
 have HG0:Hid ((aD ls).getD 0 []=ql):=by
  show _=_;rw[List.getD_eq_getElem?_getD,wordsOf_get? ls 0 hlp,hqe];rfl
 have HLC:Hid (∀ w',Below w1.heap.size w1 w'→w'.cell? ⟨pb,po,none⟩=some (.slice qs qn qc)):=fun w' hb=>by
  have h:=hpc 0 hlp;rw[Nat.add_zero,hqe] at h;exact (hb.cell (p:=⟨pb,po,none⟩) hpb).trans h
 obtain⟨wb,wo,hqs,hwb,hwc⟩:=HST.out.cells hpos;have HWK:Hid (∀ w',Below w1.heap.size w1 w'→∀ k,k<qn→w'.cell? ⟨wb,wo+k,none⟩=some (.string (wdN ql k))):=fun w' hb k hk=>by
  rw[←FE (show k<ql.length by rw[HST.out.len];exact hk)];exact (hb.cell (p:=⟨wb,wo+k,none⟩) hwb).trans (hwc k (by rw[HST.out.len];exact hk))
 clear hpc hqe hwc;subst hqs;have c0:=HLC.out w1 (Below.refl _ _);have p0:(0:Int)<(n0:Int):=by omega
 by_cases h3:qn=3
 case neg =>
  have q3:decide ((qn:Int)=3)=false:=by simp;omega
  have q4:((qn:Int) == 3)=false:=by rw[beq_eq_false_iff_ne];omega
  have tB:=zh (HDN.out (TA (by rw[HG0.out,HST.out.len];exact h3)));clear HL HQ HQ0 HST HLC HWK HG0 HDN HDB HDO HET;have HZZ:Hid ((w1.setRow w.heap.size zEn).heap[w.heap.size]? = some (.cells zEn 25 (0,0))):=setRow_heap _ _ _ _ _ _ HR1.out;have HBZ:Hid (Below w.heap.size w (w1.setRow w.heap.size zEn)):=below_setRow HB1.out zl _
  go_wp2_with (refine wpList_store_row rfl 25 _ _ rfl w.heap.size zEn rfl rfl 25 _ HR1.out (aE _ _ _) rfl (bI _ _ _ _ _ _ _) ?_)
  refine bodyPost_ret (aC (P:=Tryz.prog) rfl _ _ w.heap.size 25 _ (0,0) _ rfl HZZ.out Tryz.underlying25 rfl (aE _ _ _)) rfl ?_;rw[tB.out];exact DcE.no _ HBZ.out
 subst h3;have c1:w1.cell? ⟨wb,wo,none⟩=some (.string (wdN ql 0)):=HWK.out w1 (Below.refl _ _) 0 zo;by_cases hsw:wdN ql 0=mN
 case neg =>
  have hs:=mt (vW (wdN ql 0)).2 hsw;have e1:((wdN ql 0).toList == [101,110,118,101,108,111,112,101])=false:=by rw[beq_eq_false_iff_ne];exact hs
  have e2:decide ((wdN ql 0).toList=[101,110,118,101,108,111,112,101])=false:=decide_eq_false hs;have tB:=zh (HDN.out (MK (by rw[HG0.out];exact hsw)));clear HL HQ HQ0 HST HLC HWK HG0 hsw HDN HDB HDO HET;have HZZ:Hid ((w1.setRow w.heap.size zEn).heap[w.heap.size]? = some (.cells zEn 25 (0,0))):=setRow_heap _ _ _ _ _ _ HR1.out;have HBZ:Hid (Below w.heap.size w (w1.setRow w.heap.size zEn)):=below_setRow HB1.out zl _
  go_wp2_with (refine wpList_store_row rfl 25 _ _ rfl w.heap.size zEn rfl rfl 25 _ HR1.out (aE _ _ _) rfl (bI _ _ _ _ _ _ _) ?_)
  refine bodyPost_ret (aC (P:=Tryz.prog) rfl _ _ w.heap.size 25 _ (0,0) _ rfl HZZ.out Tryz.underlying25 rfl (aE _ _ _)) rfl ?_;rw[tB.out];exact DcE.no _ HBZ.out
 have hs:=(vW (wdN ql 0)).1 hsw;have e1:((wdN ql 0).toList == [101,110,118,101,108,111,112,101])=true:=by rw[hs];rfl
 have e2:decide ((wdN ql 0).toList=[101,110,118,101,108,111,112,101])=true:=decide_eq_true hs;have HFM:Hid (fmK (aD ls)=((aD ls).drop 1).all rsK):=ZY (by rw[HWL.out];exact h0) (by rw[HG0.out];exact HST.out.len) (by rw[HG0.out];exact hsw);have HEV:Hid (jQ (aD ls)=⟨0,wdN ql 1,(wdN ql 2).data.toList,((aD ls).drop 1).map rsP⟩):=by show _=_;unfold jQ;rw[HG0.out]
 clear hsw HQ0 HST
 go_upto_region 6 with fail
 clear c0 c1 e1 e2 hs q1 q2 hd hd2 hd3;have hn0:0<n0:=by omega
 obtain⟨B,hBe⟩:∃ B,B=w1.heap.size:=⟨_,rfl⟩;have qK:Hid (Blks B w1 w1 []):=Blks.start (Below.refl _ _) (Nat.le_of_eq hBe);have hBW:w.heap.size+1≤B:=by omega
 have HUP:Hid (∀ w',Below B w1 w'→Below w1.heap.size w1 w'):=fun w' hb=>by rw[←hBe];exact hb
 have XP:Hid (∀ {w'},Below B w1 w'→w'.cell? ⟨pb,po,none⟩=some (.slice (some ⟨wb,wo,none⟩) 3 qc)):=fun {w'} hb=>HLC.out _ (HUP.out _ hb);have HWC:Hid (∀ w',Below B w1 w'→w'.cell? ⟨wb,wo,none⟩=some (.string (wdN ql 0))∧w'.cell? ⟨wb,wo+1,none⟩=some (.string (wdN ql 1))∧w'.cell? ⟨wb,wo+2,none⟩=some (.string (wdN ql 2))):=fun w' hb =>
  ⟨HWK.out _ (HUP.out _ hb) 0 zo,HWK.out _ (HUP.out _ hb) 1 zo,HWK.out _ (HUP.out _ hb) 2 zo⟩
 go_cut [6] (fun s4 wx=>∃ ga gp capp,s4=.pointer (some ⟨ga,0,none⟩)∧wx.heap[ga]? = some (.cells (enA (wdN ql 1) (.slice (some ⟨gp,0,none⟩) (wdN ql 2).size capp) aH) 25 (0,0))∧PyO wx gp (wdN ql 2)∧(wdN ql 2).size≤capp∧ga≠gp∧B≤ga∧B≤gp∧Below B w1 wx)
 case first =>
  as_aux_lemma =>
  refine wp_region_held_drew (S:=fun w'=>Below B w1 w') (by kernel_rfl) qK.out.b.drew (fun hHeld=>?_);have NQ:=zh qK.out.drew;generalize World.drew w1=wd0 at *;refine zv 0 rfl ?_;refine zv 1 rfl ?_;refine zx 2 rfl (v:=?_) ?_ ?_;rotate_left
  ·intro w' hSw;have kL:=XP.out hSw;go_simp;try with_reducible rfl
  refine zv 3 rfl ?_;refine zx 4 rfl (v:=?_) ?_ ?_;rotate_left
  ·intro w' hSw;have kW:=(HWC.out _ hSw).2.1;go_simp;try with_reducible rfl
  refine zv 5 rfl ?_;refine zv 6 rfl ?_;refine zx 7 rfl (v:=?_) ?_ ?_;rotate_left
  ·intro w' hSw;have kL:=XP.out hSw;go_simp;try with_reducible rfl
  refine zv 8 rfl ?_;refine zx 9 rfl (v:=?_) ?_ ?_;rotate_left
  ·intro w' hSw;have kW:=(HWC.out _ hSw).2.2;go_simp;try with_reducible rfl
  refine zs 10 12 rfl (fun K hK=>?_) rfl (fun K hK=>?_);rw[if_pos (by rfl)];refine kX NQ.out _ rfl (wdN ql 2) rfl ?_;intro gp capp v1 cp fp HCPALL cA CL qB;refine hK.out _ _ cA.out.b fun _=>?_;clear hK K;refine zk 11 rfl (v:=_) (eS (by rfl) 25 [(0,.tmp 42),(1,.tmp 48)] rfl [(0,.string (wdN ql 1)),(1,.slice (some ⟨gp,0,none⟩) (wdN ql 2).size capp)] rfl _ (fun w' _=>qW _ _ _ _ w')) ?rest11n23
  try simp only[Act.put,zu]
  refine zr 12 rfl (fun K hK=>?_);obtain⟨ga,v2,hg,hw,bJ,hU⟩:=cA.out.allocd (.cells zEn 25 (0,0));go_simp
  try rw[hg]
  generalize hq:World.alloc v1 _=q;obtain rfl:v2=q:=hw.symm.trans hq;clear hg hw hq;have sJ:=zh (CL.out.below hU.out CL.out.lt);refine hK.out _ _ bJ.out.b fun _=>?_;clear hK K;refine zr 13 rfl (fun K hK=>?_);rw[if_pos (by rfl)];refine wp_store_row 25 _ _ rfl ga (enA (wdN ql 1) (.slice (some ⟨gp,0,none⟩) (wdN ql 2).size capp) aH) rfl rfl 25 _ (bJ.out.at 0 rfl) (aE _ _ _) rfl (bI _ _ _ _ _ _ _) ?_;generalize hw:World.setRow v2 _ _=v3;have dN:=zh (bJ.out.set 0 rfl (enA (wdN ql 1) (.slice (some ⟨gp,0,none⟩) (wdN ql 2).size capp) aH));rw[hw] at dN;have pD:Hid (PyO v3 gp (wdN ql 2)):=by rw[←hw];exact sJ.out.keep (setRow_other _ _ _ _ (bJ.out.ne 1 0 rfl rfl (by decide))) (Nat.le_of_eq (setRow_size _ _ _).symm)
  clear hw;refine hK.out _ _ dN.out.b fun _=>?_;clear hK K;refine zd ?_ _;go_wp2_with fail;go_meet;exact⟨ga,gp,capp,rfl,dN.out.at 0 rfl,pD.out,HCPALL.out,dN.out.ne 0 1 rfl rfl (by decide),(dN.out.lt 0 rfl).1,(dN.out.lt 1 rfl).1,dN.out.b⟩;obtain⟨ga,v1,hg,hw,cA,qB⟩:=NQ.out.allocd (.cells zEn 25 (0,0));go_simp
  try rw[hg]
  generalize hq:World.alloc wd0 _=q;obtain rfl:v1=q:=hw.symm.trans hq;clear hg hw hq;refine hK.out _ _ cA.out.b fun _=>?_;clear hK K;refine zr 10 rfl (fun K hK=>?_);rw[if_pos (by rfl)];refine kX cA.out _ rfl (wdN ql 2) rfl ?_;intro gp capp v2 cp fp HCPALL bJ sJ hU;refine hK.out _ _ bJ.out.b fun _=>?_;clear hK K;refine zk 11 rfl (v:=_) (eS (by rfl) 25 [(0,.tmp 42),(1,.tmp 48)] rfl [(0,.string (wdN ql 1)),(1,.slice (some ⟨gp,0,none⟩) (wdN ql 2).size capp)] rfl _ (fun w' _=>qW _ _ _ _ w')) ?rest11n24
  try simp only[Act.put,zu]
  refine zr 13 rfl (fun K hK=>?_);rw[if_pos (by rfl)];refine wp_store_row 25 _ _ rfl ga (enA (wdN ql 1) (.slice (some ⟨gp,0,none⟩) (wdN ql 2).size capp) aH) rfl rfl 25 _ (bJ.out.at 1 rfl) (aE _ _ _) rfl (bI _ _ _ _ _ _ _) ?_;generalize hw:World.setRow v2 _ _=v3;have dN:=zh (bJ.out.set 1 rfl (enA (wdN ql 1) (.slice (some ⟨gp,0,none⟩) (wdN ql 2).size capp) aH));rw[hw] at dN;have pD:Hid (PyO v3 gp (wdN ql 2)):=by rw[←hw];exact sJ.out.keep (setRow_other _ _ _ _ (bJ.out.ne 0 1 rfl rfl (by decide))) (Nat.le_of_eq (setRow_size _ _ _).symm)
  clear hw;refine hK.out _ _ dN.out.b fun _=>?_;clear hK K;refine zd ?_ _;go_wp2_with fail;go_meet;exact⟨ga,gp,capp,rfl,dN.out.at 1 rfl,pD.out,HCPALL.out,dN.out.ne 1 0 rfl rfl (by decide),(dN.out.lt 1 rfl).1,(dN.out.lt 0 rfl).1,dN.out.b⟩
 case rest =>
 obtain⟨ga,gp,capp,rfl,hga,hpy,hcp,hne,hBa,hBp,hbc⟩:=hcut;have HGA:=zh hga;have HPY:=zh hpy;have XW:=zh hcp;have HBC1:=zh (HUP.out _ hbc);have HBC:Hid (Bw w wc):=HB1.out.trans (hbc.mono zo);have HZc:Hid (Ah wc w.heap.size zEn 25):=(hbc.block _ zo).trans HR1.out;clear hga hpy hcp hbc qK HUP XP HWC HLC HWK HR1 HRw;have HL1:=zh (HL.out.below HBC1.out zl);have hB1e:B=w1.heap.size:=hBe
 go_upto_region 8 with fail
 clear HL;obtain⟨B1,hB1⟩:∃ B1,B1=wc.heap.size:=⟨_,rfl⟩;have hgaw:ga<wc.heap.size:=(Array.getElem?_eq_some_iff.1 HGA.out).1;have hgpw:gp<wc.heap.size:=HPY.out.lt;have FA:Hid (B1≤wc.heap.size∧wc.heap.size≤B1):=⟨by omega,by omega⟩;have hgB:ga<B1:=by omega
 have hgpB:gp<B1:=by omega
 have hw1c:w1.heap.size≤wc.heap.size:=HBC1.out.size;clear hB1
 go_loopw [7] (fun i wr=>∃ (k:Nat) (s:Option Addr) (c:Nat) (l1:List Sg),k+1≤n0∧i=.int .i64 ((k:Int)+1)∧Hid (RdE ga gp capp B1 (wdN ql 2) (wdN ql 1) (.slice s k c) l1 wr)∧Hid (l1.map pg=(((aD ls).drop 1).take k).map rsP)∧Hid ((((aD ls).drop 1).take k).all rsK=true)∧Hid (wc.grownBy wr (some ga))) (fun i _=>n0-(intOf i).toNat)
 case atStart=>exact⟨0,none,0,[],by omega,rfl,⟨HGA.out,HPY.out,OwnG.nil _ _,fun y hy=>(by cases hy),FA.out.1⟩,rfl,rfl,oV _ _⟩
 case round =>
  clear HGA HPY;obtain⟨k,s,c,l1,hk,rfl,HRE,HLP,HAL,HGW⟩:=hrel;have HBR:Hid (Bw w wr):=HBC.out.trans (cV HGW.out zo (by have:=HBC.out.size;omega));have HZr:Hid (Ah wr w.heap.size zEn 25):=(HGW.out.block _ (by have:=HBC.out.size;have:=(Array.getElem?_eq_some_iff.1 HZc.out).1;omega) (fun e=>by injection e with e;omega)).trans HZc.out;have hdl:((aD ls).drop 1).length=n0-1:=by rw[List.length_drop,HWL.out]
  have HLK:Hid (l1.length=k):=by
   have h1:=congrArg List.length HLP.out;rw[List.length_map,List.length_map,List.length_take,hdl] at h1;show _=_;omega
  by_cases hlt:k+1<n0
  ·have hd:decide ((k:Int)+1<(n0:Int))=true:=by simp;omega
   obtain⟨lb,lo,hlbe,hlb,hlc⟩:=HL1.out.cells zo;injection hlbe with hlbe
   injection hlbe with e1 e2 _
   subst e1 e2;have hkl:k+1<ls.length:=by omega
   obtain⟨xs,xn,xc,xl,hxe⟩:∃ xs xn xc xl,ls[k+1]=(⟨xs,xn,xc,xl⟩:Ln):=⟨ls[k+1].sp,ls[k+1].n,ls[k+1].cap,ls[k+1].l,rfl⟩;have HXS:Hid (StrsIn wc w1.heap.size xs xn xl):=by have h:=HL1.out.each _ (List.getElem_mem hkl);rw[hxe] at h;exact h
   have HXQ:=HQ.out _ (List.getElem_mem hkl);rw[hxe] at HXQ;have HXQ:=zh HXQ;have HWX:Hid (((aD ls).drop 1)[k]? = some xl):=by show _=_;rw[List.getElem?_drop,Nat.add_comm,wordsOf_get? ls (k+1) hkl,hxe]
   have hgw:w1.heap.size≤ga:=by omega
   have YA:Hid (Below w1.heap.size wc wr):=cV HGW.out hgw hw1c;have cL:wr.cell? ⟨pb,po+(k+1),none⟩=some (.slice xs xn xc):=by
    have h:=hlc (k+1) hkl;rw[hxe] at h;exact (YA.out.cell (p:=⟨pb,po+(k+1),none⟩) hlb).trans h
   have p1:(0:Int)≤(k:Int)+1:=by omega
   have p2:(k:Int)+1<(n0:Int):=by omega
   have t1:((k:Int)+1).toNat=k+1:=by omega
   have hsr:w1.heap.size≤wr.heap.size:=Nat.le_trans hw1c HGW.out.size;have HCS:=zh (PK xs xn xc xl wr ((HXS.out.below YA.out zl).more hsr) HXQ.out.2.1 (Nat.le_trans HXQ.out.2.2.1 (by decide)) (fun s hs=>by have:=HXQ.out.2.2.2 s hs;omega));clear hlc hxe hkl HXS HXQ;go_wp2_with fail;refine HCS.out.mono ?_;rintro e w5 ⟨x,rfl,hxt,hxp,hb⟩;have HXT:=zh hxt;have HXP:=zh hxp;have HB5:=zh hb;clear hxt hxp hb HCS cL;have aAy:=zh (HRE.out.below HB5.out);have hs5:=HB5.out.size;have hkr:B1≤wr.heap.size:=HRE.out.k;have HZG:=zh (heap_alloc_new w5 (.cells zG.toArray 50));have HOX:=zh (HXT.out.r)
   go_upto_region 11 with (refine wpList_store_row rfl 50 _ _ rfl w5.heap.size _ rfl rfl 50 _ HZG.out (aS HOX.out) (bR HOX.out) (bG x) ?_;rw[aK];generalize hwA:World.alloc w5 _=wA;have TM:Hid (GB wA w5.heap.size x):=(by rw[←hwA];exact GB.new w5 x);have HBA:Hid (Bw w5 wA):=(by rw[←hwA];exact (Below.refl _ _).alloc zl _);clear hwA)
   clear HZG;obtain⟨gx,hgx⟩:∃ gx,gx=w5.heap.size:=⟨_,rfl⟩;have HGX:Hid (GB wA gx x):=by rw[hgx];exact TM.out
   rw[←hgx];clear hgx TM;have NT:=zh (aAy.out.below HBA.out);have XD:=zh ((HXT.out.below HBA.out).base hkr);have RY:=zh (HB5.out.trans (HBA.out.mono hs5));have HGWA:Hid (wc.grownBy wA (some ga)):=dI HGW.out (RY.out.mono (by have:=FA.out;omega));have aBv:=zh (HBR.out.trans (RY.out.mono HBR.out.size));have HZA:Hid (Ah wA w.heap.size zEn 25):=(RY.out.block _ (Array.getElem?_eq_some_iff.1 HZr.out).1).trans HZr.out;clear aAy HRE HXT HBA HB5 RY HGW HBR HZr YA
   cases hr:rsK xl
   ·have tB:=zh (HDN.out (by rw[HFM.out];exact TI HWX.out hr));clear hr HXP NT XD HGX HLP HAL HDN HDB HDO HET;have HZZ:Hid ((wA.setRow w.heap.size zEn).heap[w.heap.size]? = some (.cells zEn 25 (0,0))):=setRow_heap _ _ _ _ _ _ HZA.out;have HBZ:Hid (Below w.heap.size w (wA.setRow w.heap.size zEn)):=below_setRow aBv.out zl _
    go_wp2_with (refine wpList_store_row rfl 25 _ _ rfl w.heap.size zEn rfl rfl 25 _ HZA.out (aE _ _ _) rfl (bI _ _ _ _ _ _ _) ?_)
    refine bodyPost_ret (aC (P:=Tryz.prog) rfl _ _ w.heap.size 25 _ (0,0) _ rfl HZZ.out Tryz.underlying25 rfl (aE _ _ _)) rfl ?_;rw[tB.out];exact DcE.no _ HBZ.out
   ·have HPX:=zh (HXP.out hr);have HALk:Hid ((((aD ls).drop 1).take (k+1)).all rsK=true):=by show _=_;rw[EU HWX.out,HAL.out,hr];rfl
    have HLPk:Hid ((l1++[x]).map pg=(((aD ls).drop 1).take (k+1)).map rsP):=by show _=_;rw[List.map_append,HLP.out,List.take_add_one,HWX.out,List.map_append];simp[HPX.out]
    clear hr HXP HPX HLP HAL aBv HZA;have cS:=iW NT.out.box;have hkA:=NT.out.k
    go_upto_region 9 with (first
     | (refine wpList_load_row rfl 50 _ rfl gx rfl 50 _ (0,0) _ HGX.out Tryz.underlying50 rfl (aS HOX.out) ?_)
     | (refine aT rfl 23 1 [(0,.tmp 69)] rfl [(0,.agg (aX x).toArray)] rfl _ _ (rH _ x HOX.out) ?_;generalize hwF:World.alloc wA _=wF;have HGF:Hid (GB wF wA.heap.size x):=(by rw[←hwF];exact GB.new _ _);have HBF:Hid (Bw wA wF):=(by rw[←hwF];exact aA _ _);have AF:=zh (NT.out.below HBF.out);have aAo:=zh (XD.out.below HBF.out);have hkF:=AF.out.k;clear hwF)
     | (at_builtin;refine cZ rfl (.tmp 68) (.tmp 70) rfl B1 _ l1 k HLK.out.symm rfl AF.out.o wA.heap.size x rfl HGF.out HOX.out zo hkF ?_;intro sp8 cap8 w8 HO8 HB8 HG8;have wY:=zh (((HB8.out.block _ hgB).trans AF.out.box));have cS:=iW wY.out;have fS:=frozen_of_row _ _ 2 _ _ wY.out))
    have HO9:=zh (HO8.out.setOther hgB 2 (.slice sp8 (k+1) cap8));have HG9:Hid ((w8.setCell ⟨ga,2,none⟩ (.slice sp8 (k+1) cap8)).heap[ga]? = some (.cells (enA (wdN ql 1) (.slice (some ⟨gp,0,none⟩) (wdN ql 2).size capp) (.slice sp8 (k+1) cap8)) 25 (0,0))):=by
     have h:=heap_setCell_same w8 ga 2 _ _ (.slice sp8 (k+1) cap8) wY.out;rw[uC] at h;exact h
    have HT9:Hid (∀ y ∈ l1++[x],SgT (w8.setCell ⟨ga,2,none⟩ (.slice sp8 (k+1) cap8)) B1 y):=fun y hy=>by
     rcases List.mem_append.1 hy with h | h
     ·exact ((AF.out.t y h).grown AF.out.o HG8.out).setCell wY.out oQ 2 _
     ·rw[List.mem_singleton.1 h];exact (aAo.out.grown AF.out.o HG8.out).setCell wY.out oQ 2 _
    have HP9:=zh ((AF.out.py.below HB8.out hgpB).keep (heap_setCell_other _ _ _ _ (Ne.symm hne)) (jD _ _ _));have hk9:B1≤(w8.setCell ⟨ga,2,none⟩ (.slice sp8 (k+1) cap8)).heap.size:=Nat.le_trans (Nat.le_trans hkF HB8.out.size) (jD _ _ _);have HW9:Hid (wc.grownBy (w8.setCell ⟨ga,2,none⟩ (.slice sp8 (k+1) cap8)) (some ga)):=bL (dI (dI HGWA.out (HBF.out.mono (by have:=FA.out;omega))) (HB8.out.mono (by have:=FA.out;omega))) _ _;generalize World.setCell w8 _ _=w9 at *;clear cS fS AF aAo NT XD HGF HBF HO8 HB8 HG8 wY;go_wp2_with fail;go_roundw
    case rel=>exact⟨k+1,sp8,cap8,l1++[x],by omega,by go_num,⟨HG9.out,HP9.out,HO9.out,HT9.out,hk9⟩,HLPk.out,HALk.out,HW9.out⟩
    case measure=>simp[intOf] <;> omega
  ·have hke:k+1=n0:=by omega
   have hd1:decide ((k:Int)+1<(n0:Int))=false:=by simp;omega
   have HTL:Hid (((aD ls).drop 1).take k=(aD ls).drop 1):=by show _=_;rw[List.take_of_length_le];omega
   rw[HTL.out] at HLP HAL;have HF:Hid (fmK (aD ls)=true):=by show _=_;rw[HFM.out];exact HAL.out
   have TQ:=zh (HDB.out HF.out);have TP:=zh (HDO.out HF.out);have HBB:Hid ((jQ (aD ls)).b=(wdN ql 2).data.toList):=by show _=_;rw[HEV.out]
   have HTT:Hid ((jQ (aD ls)).t=wdN ql 1):=by show _=_;rw[HEV.out]
   have HLL:Hid (l1.map pg=(jQ (aD ls)).L):=by show _=_;rw[HEV.out];exact HLP.out
   have HTS:Hid ((wdN ql 1).size≤maxLen):=by rw[HTT.out] at HET;exact HET.out
   have HCV:=zh (mB (wdN ql 1) (some ⟨gp,0,none⟩) (wdN ql 2).size capp (wdN ql 2).data.toList s k c l1 wr HTS.out (HRE.out.py.src XW.out) (DI HRE.out.o HRE.out.t HLK.out));have HEE:Hid (jQ (aD ls)=⟨0,wdN ql 1,(wdN ql 2).data.toList,l1.map pg⟩):=by show _=_;rw[HEV.out,←HLP.out]
   rw[HEE.out] at TQ TP;clear HDN HDB HDO HET HF HLP HAL HTL HTT HBB HEV HFM HLL HEE
   go_wp2_with (refine wpList_load_row rfl 25 _ rfl ga rfl 25 _ (0,0) _ HRE.out.box Tryz.underlying25 rfl (aE _ _ _) ?_)
   refine HCV.out.mono ?_;rintro e w4 ⟨rfl,hb4⟩;have XH:=zh (HRE.out.below hb4);have HR4:Hid (Ah w4 w.heap.size zEn 25):=(hb4.block _ (Array.getElem?_eq_some_iff.1 HZr.out).1).trans HZr.out;have HB4:=zh (HBR.out.trans (hb4.mono HBR.out.size));clear hb4 HCV HRE HBR HZr HGW
   cases hv:fM (wdN ql 1) (wdN ql 2).data.toList (l1.map pg)
   ·have tB:=zh (TQ.out hv);clear TQ TP hv XH;have HZZ:Hid ((w4.setRow w.heap.size zEn).heap[w.heap.size]? = some (.cells zEn 25 (0,0))):=setRow_heap _ _ _ _ _ _ HR4.out;have HBZ:Hid (Below w.heap.size w (w4.setRow w.heap.size zEn)):=below_setRow HB4.out zl _
    go_wp2_with (refine wpList_store_row rfl 25 _ _ rfl w.heap.size zEn rfl rfl 25 _ HR4.out (aE _ _ _) rfl (bI _ _ _ _ _ _ _) ?_)
    refine bodyPost_ret (aC (P:=Tryz.prog) rfl _ _ w.heap.size 25 _ (0,0) _ rfl HZZ.out Tryz.underlying25 rfl (aE _ _ _)) rfl ?_;rw[tB.out];exact DcE.no _ HBZ.out
   ·have tB:=zh (TP.out hv);have HLE:=zh (CU hv);clear TQ TP hv;have hnr:gp≠w.heap.size:=by omega
    have HFF:Hid ((w4.setRow w.heap.size (enA (wdN ql 1) (.slice (some ⟨gp,0,none⟩) (wdN ql 2).size capp) (.slice s k c))).heap[w.heap.size]? = some (.cells (enA (wdN ql 1) (.slice (some ⟨gp,0,none⟩) (wdN ql 2).size capp) (.slice s k c)) 25 (0,0))∧Below w.heap.size w (w4.setRow w.heap.size (enA (wdN ql 1) (.slice (some ⟨gp,0,none⟩) (wdN ql 2).size capp) (.slice s k c))) ∧
     PyO (w4.setRow w.heap.size (enA (wdN ql 1) (.slice (some ⟨gp,0,none⟩) (wdN ql 2).size capp) (.slice s k c))) gp (wdN ql 2)∧SgsIn (w4.setRow w.heap.size (enA (wdN ql 1) (.slice (some ⟨gp,0,none⟩) (wdN ql 2).size capp) (.slice s k c))) (w4.setRow w.heap.size (enA (wdN ql 1) (.slice (some ⟨gp,0,none⟩) (wdN ql 2).size capp) (.slice s k c))).heap.size s k c l1):=by
     refine⟨setRow_heap _ _ _ _ _ _ HR4.out,below_setRow HB4.out zl _,XH.out.py.keep (setRow_other _ _ _ _ hnr) (Nat.le_of_eq (setRow_size _ _ _).symm),DI (B:=B1) ⟨World.ownsRow.kept XH.out.o.1 (bT w4 _ _) (cN XH.out.o.1 HR4.out (by decide)),XH.out.o.2⟩ (fun y hy=>(XH.out.t y hy).setRow HR4.out oQ _) HLK.out⟩
    go_wp2_with (first
     | (refine wpList_load_row rfl 25 _ rfl ga rfl 25 _ (0,0) _ XH.out.box Tryz.underlying25 rfl (aE _ _ _) ?_)
     | (refine wpList_store_row rfl 25 _ _ rfl w.heap.size (enA (wdN ql 1) (.slice (some ⟨gp,0,none⟩) (wdN ql 2).size capp) (.slice s k c)) rfl rfl 25 _ HR4.out (aE _ _ _) rfl (bI _ _ _ _ _ _ _) ?_))
    generalize World.setRow w4 _ _=w5 at *;refine bodyPost_ret (aC (P:=Tryz.prog) rfl _ _ w.heap.size 25 _ (0,0) _ rfl HFF.out.1 Tryz.underlying25 rfl (aE _ _ _)) rfl ?_;rw[tB.out];exact⟨_,_,_,_,_,_,l1,rfl,⟨HFF.out.2.2.1.src XW.out,HFF.out.2.2.2,rfl,HLE.out.1,by have h:=HLE.out.2;rw[List.length_map,HLK.out] at h;omega⟩,HFF.out.2.1⟩
end Go.Proofs.YtaeobegaodhpcaaGreatDoor
