/-
  Envelopes: the walk of signatureLine (conditions: the signature has its shape; its lists read as halves; the table of powers of ten reads as it is laid).
-/
import Derived.Test.YtaeobegaodhpcaaGreatDoorZip
import Derived.Test.YtaeobegaodhpcaaGreatDoorQ26
import Derived.OrdersHeld
set_option maxRecDepth 100000
set_option maxHeartbeats 8000000
namespace Go.Proofs.YtaeobegaodhpcaaGreatDoor
open Go.RowKit Go.Proofs.YtaeobegaodhpcaaGreatDoor.One
theorem JN (w:World) (a b:ByteArray):(Instr.buildSlice 55 3 #[(0,.string jB),(1,.string a),(2,.string b)]).run Tryz.prog w=.ok (.slice (some ⟨w.heap.size,0,none⟩) 3 3) (w.alloc (.cells ([jB,a,b].map Value.string).toArray 9)):=by kernel_rfl
theorem gb_h {w:World} {b:Nat} {x:Sg} (h:GB w b x):w.cell? ⟨b,0,none⟩=some (.int .i64 x.h):=aG (L:=aX x) h rfl
theorem gb_r {w:World} {b:Nat} {x:Sg} (h:GB w b x):w.rangeAt b 1 (x.r.map (Value.int .u8)):=fun j v hv=>aG (L:=aX x) h (by
 have hj:=(List.getElem?_eq_some_iff.1 hv).1;show ((Value.int .i64 x.h :: x.r.map (Value.int .u8))++sgS x)[1+j]? = some v;rw[List.getElem?_append_left (by rw[List.length_cons];omega),Nat.add_comm,List.getElem?_cons_succ];exact hv)
theorem LS {x:Sg} (h:OkG x):(Tryz.prog.info? 42).map (·.size)=some (x.r.map (Value.int .u8)).length:=by rw[List.length_map,show x.r.length=16 from h.1];kernel_rfl
structure ShG (x:Sg):Prop where
 ok:OkG x
 h : -9223372036854775808≤x.h∧x.h≤9223372036854775807
 a : -9223372036854775808≤x.a∧x.a≤9223372036854775807
 n:x.n≤100
 m:x.m≤100
theorem ShG.of {w:World} {B:Nat} {x:Sg} (hd:SgD w B x) (ho:OkG x) (hs:tL (pg x)=true):ShG x:=by
 obtain⟨h1,h2,h3,h4⟩:=SI hs;have e1:x.l.length=x.n:=hd.c.len;have e2:x.q.length=x.m:=hd.p.len;have h3':x.l.length=68:=h3;have h4':x.q.length≤6:=h4;have h1':0≤x.h∧x.h≤6:=h1;have h2':0≤x.a∧x.a≤65535:=h2;exact⟨ho,by omega,by omega,by omega,by omega⟩
theorem QH (x:Sg):[jB,mE x.h,iV x.r]++lP x.a x.l x.q=iE (pg x):=rfl
theorem AU (x:Sg) (w:World) (hs:ShG x) (hd:SgD w w.heap.size x) (ht:P10In w) (ht0:1<w.heap.size) :
 Calls Tryz.prog 17 #[.agg (aX x).toArray] w fun e w'=>∃ sp cap,e=.returned (.slice sp (3+(1+x.n+x.m)) cap)∧Hid (LnOwnL w' w.heap.size ⟨sp,3+(1+x.n+x.m),cap,iE (pg x)⟩)∧Below w.heap.size w w':=by
 have HSH:=zh hs;have HD:=zh hd;have HT:=zh ht;have HOX:Hid (OkG x):=hs.ok;clear hs hd ht;have HZ:=zh (GB.new w x);have HBz:=zh (aA w (.cells (aX x).toArray 50))
 go_enter Tryz.func17,Tryz.ntmps17
 go_upto_region 1 with fail
 generalize hw0:World.alloc w _=w0;have HG0:Hid (GB w0 w.heap.size x):=by rw[←hw0];exact HZ.out
 have HB0:Hid (Bw w w0):=by rw[←hw0];exact HBz.out
 clear hw0 HZ HBz;have HL0:Hid (w.heap.size<w0.heap.size):=(Array.getElem?_eq_some_iff.1 HG0.out).1;obtain⟨gX,hgX⟩:∃ gX,gX=w.heap.size:=⟨_,rfl⟩;rw[←hgX] at HG0 HL0;rw[←hgX];obtain⟨B,hBe⟩:∃ B,B=w0.heap.size:=⟨_,rfl⟩;have qK:Hid (Blks B w0 w0 []):=Blks.start (Below.refl _ _) (Nat.le_of_eq hBe);have HLT:Hid (gX<B):=by rw[hBe];exact HL0.out
 have HGX:=zh hgX;have HBe:=zh hBe;clear hgX hBe HL0;have HGW:Hid (∀ w',Below B w0 w'→GB w' gX x):=fun w' hb=>HG0.out.below hb HLT.out;have HCN:Hid (∀ w',Below B w0 w'→Calls Tryz.prog 39 #[.int .i64 x.h] w' fun e w''=>e=.returned (.string (mE x.h))∧Below w'.heap.size w' w''):=fun w' hb =>
  uM x.h HSH.out.h.1 HSH.out.h.2 w' ((HT.out.below HB0.out ht0).below hb (by rw[HBe.out];exact Nat.lt_of_lt_of_le ht0 HB0.out.size))
 have HCF:Hid (∀ w',Below B w0 w'→Calls Tryz.prog 40 #[.agg (x.r.map (Value.int .u8)).toArray] w' fun e w''=>e=.returned (.string (iV x.r))∧Below w'.heap.size w' w''):=fun w' hb =>
  lX x.r w' HOX.out.1 HOX.out.2
 go_cut [3] (fun s3 wx=>∃ gR,s3=.slice (some ⟨gR,0,none⟩) 3 3∧Hid (wx.heap[gR]? = some (.cells ([jB,mE x.h,iV x.r].map Value.string).toArray 9 (0,0)))∧B≤gR∧Below B w0 wx)
 case first =>
  as_aux_lemma =>
  refine wp_region_held_drew (S:=fun w'=>Below B w0 w') (by kernel_rfl) qK.out.b.drew (fun hHeld=>?_);refine zv 0 rfl ?_;refine zv 1 rfl ?_;refine zx 2 rfl (v:=?_) ?_ ?_;rotate_left
  ·intro w' hSw;have k1:=gb_h (HGW.out _ hSw);go_simp;try with_reducible rfl
  refine zv 4 rfl ?_;refine zv 5 rfl ?_;refine' zk 6 rfl (v:=_) (yieldsIf_load_mid (by rfl) _ _ rfl _ _ rfl _ _ ?hS6n6 Tryz.underlying42 rfl (LS HOX.out)) ?rest6n6
  case hS6n6 =>
   intro w' hSw;exact gb_r (HGW.out _ hSw)
  try simp only[Act.put,zu]
  refine zr 3 rfl (fun K hK=>?_);go_simp
  with_reducible refine (HCN.out _ (qK.out.drew).b).mono ?_
  rintro e v1 ⟨rfl,hb⟩;have cA:=zh (qK.out.call ((Below.refl _ _).drew.trans hb));clear hb;go_wp2_with fail;refine hK.out _ _ cA.out.b fun _=>?_;clear hK K;refine zr 7 rfl (fun K hK=>?_);go_simp
  with_reducible refine (HCF.out _ (cA.out).b).mono ?_
  rintro e v2 ⟨rfl,hb⟩;have bJ:=zh (cA.out.call hb);clear hb;go_wp2_with fail;refine hK.out _ _ bJ.out.b fun _=>?_;clear hK K;refine zr 8 rfl (fun K hK=>?_)
  first | (rw[if_pos (by rfl)];refine pE 55 3 [(0,.const (.string ⟨#[115,105,103,110,97,116,117,114,101]⟩)),(1,.tmp 7),(2,.tmp 11)] rfl [(0,.string jB),(1,.string (mE x.h)),(2,.string (iV x.r))] rfl _ _ (JN _ _ _) ?_) | skip
  obtain⟨gR,v3,hg,hw,dN,HEv3⟩:=bJ.out.allocd (.cells ([jB,mE x.h,iV x.r].map Value.string).toArray 9 (0,0));go_simp
  try rw[hg]
  generalize hq:World.alloc v2 _=q;obtain rfl:v3=q:=hw.symm.trans hq;clear hg hw hq;refine hK.out _ _ dN.out.b fun _=>?_;clear hK K;refine zv 9 rfl ?_;refine zd ?_ _;go_wp2_with fail;go_meet;exact⟨gR,rfl,dN.out.at 0 rfl,(dN.out.lt 0 rfl).1,dN.out.b⟩
 case rest =>
 obtain⟨gR,rfl,HR,hgr,hbc⟩:=hcut;have HGc:=zh (HGW.out _ hbc);have HBc:Hid (Below w.heap.size w wc):=HB0.out.trans (hbc.mono (by rw[←HGX.out];exact Nat.le_of_lt HLT.out));have hkc:B≤wc.heap.size:=Nat.le_of_lt (Nat.lt_of_le_of_lt hgr (Array.getElem?_eq_some_iff.1 HR.out).1);have HSS:=zh (HGc.out.s HOX.out);have HIS:=zh (oS x);clear qK HGW HCN HCF hbc;have HDc:=zh (HD.out.up HBc.out zl);have HCW:=zh (IT x.a x.sp x.n x.c x.l x.sq x.m x.d x.q wc HSH.out.a.1 HSH.out.a.2 HDc.out.c HDc.out.p HDc.out.cn HDc.out.pn (by have:=HSH.out.n;omega) (by have:=HSH.out.m;omega) (HT.out.below HBc.out ht0) (Nat.lt_of_lt_of_le ht0 HBc.out.size))
 go_wp2_with (refine wpList_load_mid rfl 48 _ rfl gX 17 rfl _ _ HSS.out Tryz.underlying48 rfl HIS.out ?_)
 refine HCW.out.mono ?_;rintro e w2 ⟨spw,capw,rfl,how,hbw⟩;have HOW:=zh (OwnW.strs how (by unfold lP;simp[HDc.out.c.len,HDc.out.p.len];omega));have HR2:Hid (w2.heap[gR]? = some (.cells ([jB,mE x.h,iV x.r].map Value.string).toArray 9 (0,0))):=(hbw.block _ (Array.getElem?_eq_some_iff.1 HR.out).1).trans HR.out;have HB2:=zh (HBc.out.trans (hbw.mono HBc.out.size));have hk2:B≤w2.heap.size:=Nat.le_trans hkc hbw.size;have hBw:w.heap.size≤B:=by rw[←HGX.out];exact Nat.le_of_lt HLT.out
 have hnm:1+x.n+x.m≤1000∨True:=.inr trivial;have hn68:=HSH.out.n;have hm68:=HSH.out.m;clear how hbw HR HGc HBc HSS HCW HDc
 go_wp2_with (refine wpList_plain rfl fun _ hK=>lO _ _ rfl B gR [jB,mE x.h,iV x.r] 3 rfl (by decide) rfl HR2.out hgr hk2 _ spw (1+x.n+x.m) capw (lP x.a x.l x.q) rfl HOW.out zo (fun sp' cap' w3 HL3 HG3=>hK _ _ ?_))
 have HB3:Hid (Bw w w3):=HB2.out.grown HG3.out HB2.out.size (fun k e=>by injection e with e;omega);have HL3':Hid (LnOwnL w3 w.heap.size ⟨sp',3+(1+x.n+x.m),cap',iE (pg x)⟩):=by have h:=HL3.out.lower hBw;rw[QH] at h;exact h
 clear HL3 HG3;go_wp2_with fail;go_ret;exact⟨sp',cap',rfl,HL3'.out,HB3.out⟩
structure LnB (base:Nat) (w2:World) (v:Value) (done:List Ln) (y:Ln) (w4:World):Prop where
 o:LnsOwn w4 base v done
 c:w4.cell? ⟨w2.heap.size,0,none⟩=some y.val
 y:LnOwnL w4 base y
 b:Below w2.heap.size w2 w4
 k:base≤w4.heap.size
theorem LnB.new {base:Nat} {w2:World} {v:Value} {done:List Ln} {y:Ln} (ho:LnsOwn w2 base v done) (hy:LnOwnL w2 base y) (hb:base≤w2.heap.size):LnB base w2 v done y (w2.alloc (.cells #[y.val] 55)):=by
 have hb1:Below w2.heap.size w2 (w2.alloc (.cells #[y.val] 55)):=(Below.refl _ _).alloc zl _;have hc:=heap_alloc_new w2 (.cells #[y.val] 55);exact⟨ho.below hb1,by rw[cell_of_row _ w2.heap.size 0 _ _ _ hc];rfl,LnOwnL.below hy hb1,hb1,by have:=hb1.size;omega⟩
def EncE (r:Nat × List UInt8) (w:World) (e:Ending) (w':World):Prop:=∃ v,e=.returned (.tuple #[v,.int .i64 (r.1:Nat)])∧Hid (w'.ownsRow w.heap.size 5 1 v r.2.length (Lib.byteCells r.2))∧Below w.heap.size w w'
theorem DQ {w:World} {B g g2:Nat} {t:ByteArray} {b:List UInt8} (h:w.heap[g]? = some (.cells #[.string mN,.string t,.string ⟨b.toArray⟩] 9 (0,0))) (hg:B≤g) (h2:w.heap[g2]? = some (.cells #[.slice (some ⟨g,0,none⟩) 3 3] 55 (0,0))) (hg2:B≤g2) :
 LnsOwn w B (.slice (some ⟨g2,0,none⟩) 1 1) [⟨some ⟨g,0,none⟩,3,3,[mN,t,⟨b.toArray⟩]⟩] :=
 GE (ls:=[⟨some ⟨g,0,none⟩,3,3,[mN,t,⟨b.toArray⟩]⟩]) h2 hg2 rfl (by decide) fun q hq=>by
  obtain rfl:=List.mem_singleton.1 hq;exact yY h hg rfl (by decide)
theorem CC (t:ByteArray) (sp:Option Addr) (n cap:Nat) (b:List UInt8) (sq:Option Addr) (m cq:Nat) (l:List Sg) (w:World) (ht:t.size≤maxLen) (hp:BSrc w w.heap.size sp n cap b) (hl:SgsIn w w.heap.size sq m cq l) (hk:KayIn w) (hk0:4<w.heap.size) (h10:P10In w) (h100:1<w.heap.size) :
 Calls Tryz.prog 7 #[.agg (enA t (.slice sp n cap) (.slice sq m cq))] w (EncE (WF t b (l.map pg)) w):=by
 have HP:=zh hp;have HL:=zh hl;have HK:=zh hk;have H10:=zh h10;have HE:=zh (heap_alloc_new w (.cells (enA t (.slice sp n cap) (.slice sq m cq)) 25));clear hp hl hk h10
 go_enter Tryz.func7,Tryz.ntmps7
 go_upto_region 1 with fail
 generalize hw0:World.alloc w _=w0;have HE0:Hid (Ah w0 w.heap.size (enA t (.slice sp n cap) (.slice sq m cq)) 25):=by rw[←hw0];exact HE.out
 have HB0:Hid (Bw w w0):=by rw[←hw0];exact (Below.refl _ _).alloc zl _
 have hs0:w0.heap.size=w.heap.size+1:=by rw[←hw0];simp
 clear hw0 HE;have HP0:=zh ((HP.out.below HB0.out zl).more (show w.heap.size≤w0.heap.size by omega));have HL0:=zh (HL.out.up HB0.out zl);have HCV:=zh (fI t sp n cap b sq m cq l w0 ht HP0.out HL0.out (HK.out.below HB0.out hk0) zo);have HIE:=zh (aE t (.slice sp n cap) (.slice sq m cq))
 go_wp2_with (refine wpList_load_row rfl 25 _ rfl w.heap.size rfl 25 _ (0,0) _ HE0.out Tryz.underlying25 rfl HIE.out ?_)
 refine HCV.out.mono ?_;rintro e w1 ⟨rfl,hb⟩;have HB1:=zh hb;clear hb HCV;have hs1:=HB1.out.size;have uO:Hid (Bw w w1):=HB0.out.trans (HB1.out.mono zo)
 cases hv:fM t b (l.map pg)
 ·have HEQ:=zh (MS hv);clear hv;go_wp2_with fail;go_ret2;exact⟨.slice none 0 0,by rw[HEQ.out];rfl,by rw[HEQ.out];exact World.ownsRow_nil _ _ _ _,uO.out⟩
 have HEQ:=zh (EG hv);have HVA:=zh (AP hv);clear hv;have h8:m≤8:=by have:=HVA.out.2.2.1;rw[List.length_map,HL.out.len] at this;exact this
 have HE1:Hid (Ah w1 w.heap.size (enA t (.slice sp n cap) (.slice sq m cq)) 25):=(HB1.out.block _ zo).trans HE0.out;have c1:=IM HE1.out;have c2:=qU HE1.out;have HCH:=zh (pS t sp n cap b w1 ((HP0.out.below HB1.out zl).more hs1));go_wp2_with fail;refine HCH.out.mono ?_;rintro e w2 ⟨rfl,HH,hb⟩;have HB2:=zh hb;clear hb HCH c1 c2;have XN:Hid (w1.heap.size<w2.heap.size):=(Array.getElem?_eq_some_iff.1 HH.out).1;have HA3:=zh (heap_alloc_new w2 (.cells #[.slice (some ⟨w1.heap.size,0,none⟩) 3 3] 55));have HAB3:=zh ((Below.refl w2.heap.size w2).alloc zl (.cells #[.slice (some ⟨w1.heap.size,0,none⟩) 3 3] 55))
 go_upto_region 4 with fail
 generalize World.alloc w2 _=w3 at *;obtain⟨B,hBe⟩:∃ B,B=w1.heap.size:=⟨_,rfl⟩;have hBW:w.heap.size+1≤B:=by omega
 have HH3:Hid (Ah w3 B #[.string mN,.string t,.string ⟨b.toArray⟩] 9):=by rw[hBe];exact (HAB3.out.block _ XN.out).trans HH.out
 rw[←hBe] at HA3 XN;have XO:Hid (LnsOwn w3 B (.slice (some ⟨w2.heap.size,0,none⟩) 1 1) [⟨some ⟨B,0,none⟩,3,3,[mN,t,⟨b.toArray⟩]⟩]):=DQ HH3.out zl HA3.out (Nat.le_of_lt XN.out);have TT:Hid (Below B w1 w3):=by rw[hBe];exact HB2.out.trans (HAB3.out.mono HB2.out.size)
 have HE3:Hid (Ah w3 w.heap.size (enA t (.slice sp n cap) (.slice sq m cq)) 25):=(TT.out.block _ zo).trans HE1.out;have c3:=iW HE3.out;have HKB:Hid (B≤w1.heap.size):=Nat.le_of_eq hBe;obtain⟨g2,hg2⟩:∃ g2,g2=w2.heap.size:=⟨_,rfl⟩;rw[←hg2] at XO;rw[←hg2];clear hg2 hBe HH3 HH HA3 HAB3 XN HB2 HB1 HE1 HE0 HP0 HL0 HB0
 go_upto_region 5 with fail
 clear c3
 go_loopw [4,19] (fun v i wr=>∃ (k:Nat) (sp1:Option Addr) (cap1:Nat) (ls:List Ln),k≤m∧v=.slice sp1 (1+k) cap1∧i=.int .i64 k∧Hid (LnsOwn wr B (.slice sp1 (1+k) cap1) ls∧ls.length=1+k∧aD ls=[[mN,t,⟨b.toArray⟩]]++((l.map pg).take k).map iE)∧Hid (Below B w1 wr)) (fun _ i _=>m-(intOf i).toNat)
 case atStart=>exact⟨0,_,_,_,Nat.zero_le _,rfl,rfl,⟨XO.out,rfl,rfl⟩,TT.out⟩
 case round =>
  clear XO TT HE3;obtain⟨k,sp1,cap1,ls,hk,rfl,rfl,HLS,HBR⟩:=hrel;have hszr:B≤wr.heap.size:=by have:=HBR.out.size;have:=HKB.out;omega
  have EZ:Hid (Bw w wr):=uO.out.trans (HBR.out.mono zo);by_cases hlt:k<m
  ·have hd:decide ((k:Int)<(m:Int))=true:=by simp;omega
   obtain⟨bq,off,rfl,hbB,hcap,hr⟩:=HL.out.cells zo;have hkl:k<l.length:=by rw[HL.out.len];exact hlt
   obtain⟨x,hx⟩:∃ x,l[k]? = some x:=⟨l[k],List.getElem?_eq_getElem hkl⟩;have hxm:x ∈ l:=List.mem_of_getElem? hx;have HR:=zh (aB (hr k x hx) EZ.out hbB);have HOX:=zh (HL.out.ok x hxm);have HI:=zh (gG HOX.out);have HDX:=zh (HL.out.dat x hxm);have HSX:=zh (ShG.of HDX.out HOX.out (HVA.out.2.2.2 (pg x) (List.mem_map.2 ⟨x,hxm,rfl⟩)));have HTK:=zh (show ((l.map pg).take (k+1)).map iE=((l.map pg).take k).map iE++[iE (pg x)] by rw[List.take_add_one,List.getElem?_map,hx,List.map_append];rfl);have p1:(0:Int)≤(k:Int):=by omega
   have p2:(k:Int)<(m:Int):=by omega
   have p3:(m:Int)≤(cq:Int):=by omega
   have HZG:=zh (heap_alloc_new wr (.cells zG.toArray 50));clear hr hx hxm hkl hbB
   go_upto_region 7 with (first
    | (refine wpList_load_mid rfl 50 _ rfl bq (off+k*20) rfl _ _ HR.out Tryz.underlying50 rfl HI.out ?_)
    | (refine wpList_store_row rfl 50 _ _ rfl wr.heap.size _ rfl rfl 50 _ HZG.out (aS HOX.out) (bR HOX.out) (bG x) ?_;rw[aK];generalize hw1':World.alloc wr _=wx;have HGX:Hid (GB wx wr.heap.size x):=(by rw[←hw1'];exact GB.new wr x);have HBX:Hid (Bw wr wx):=(by rw[←hw1'];exact (Below.refl _ _).alloc zl _);clear hw1'))
   clear HZG HR HI;have TR:Hid (Bw w wx):=EZ.out.trans (HBX.out.mono zo);have hsx:=HBX.out.size;have HCS:=zh (AU x wx HSX.out (HDX.out.up TR.out zl) (H10.out.below TR.out h100) (Nat.lt_of_lt_of_le h100 TR.out.size))
   go_wp2_with (refine wpList_load_row rfl 50 _ rfl wr.heap.size rfl 50 _ (0,0) _ HGX.out Tryz.underlying50 rfl (aS HOX.out) ?_)
   refine HCS.out.mono ?_;rintro e w5 ⟨sp5,cap5,rfl,HLN,hb⟩;have HB5:=zh hb;clear hb HCS;have hs5:=HB5.out.size;have HLS5:=zh ((HLS.out.1.below HBX.out).below HB5.out);have HLN5:=zh (HLN.out.lower (show B≤wx.heap.size by omega));have HLQ:=zh (LnB.new HLS5.out HLN5.out zo);have HLE:=zh HLS.out.2.1;have HWE:Hid (aD (ls++[(⟨sp5,3+(1+x.n+x.m),cap5,iE (pg x)⟩:Ln)])=[[mN,t,⟨b.toArray⟩]]++((l.map pg).take (k+1)).map iE):=by
    show _=_;rw[pF,HLS.out.2.2,HTK.out,List.append_assoc];rfl
   have HBR5:Hid (Below B w1 w5):=HBR.out.trans ((HBX.out.mono hszr).trans (HB5.out.mono zo));have HLL:Hid ((ls++[(⟨sp5,3+(1+x.n+x.m),cap5,iE (pg x)⟩:Ln)]).length=1+(k+1)):=by show _=_;rw[List.length_append,HLE.out];rfl
   have hk5:B≤w5.heap.size:=by omega
   clear HLS HLN HLS5 HLN5 HBR HBX HB5 HGX TR HTK
   go_wp2_with (refine wpList_plain rfl fun _ hK=>mO _ _ rfl B _ ls (1+k) HLE.out.symm rfl HLQ.out.o w5.heap.size ⟨sp5,3+(1+x.n+x.m),cap5,iE (pg x)⟩ rfl HLQ.out.c HLQ.out.y zo HLQ.out.k (fun sp' cap' w7 HL7 HBB HGR=>hK _ _ ?_))
   have HBR7:Hid (Below B w1 w7):=HBR5.out.trans ((HLQ.out.b.mono hk5).trans HBB.out);clear HBR5 HLQ HBB HGR;go_wp2_with fail;go_roundw
   case rel=>exact⟨k+1,sp',cap',_,by omega,rfl,by go_num,⟨HL7.out,HLL.out,HWE.out⟩,HBR7.out⟩
   case measure=>simp[intOf];omega
  ·obtain rfl:k=m:=by omega
   have hd:decide ((k:Int)<(k:Int))=false:=by simp
   have HWE:Hid (aD ls=pN t b (l.map pg)):=by
    show _=_;rw[HLS.out.2.2,List.take_of_length_le (by rw[List.length_map,HL.out.len];exact Nat.le_refl _)];rfl
   have HLI:=zh (HLS.out.1.lines HLS.out.2.1);have HEA:=zh (fun q hq=>LnOwnL.le (HLS.out.1.each q hq));have hk8:1+k≤9223372036854775807:=by omega
   clear HLS HBR;go_wp2_with fail;refine (uP _ _ _ _ wr HLI.out hk8 HEA.out).mono ?_;rintro e w9 ⟨v,rfl,hown,hb⟩;rw[HWE.out] at hown ⊢;have HO:Hid (w9.ownsRow w.heap.size 5 1 v (enc (pN t b (l.map pg))).2.length (Lib.byteCells (enc (pN t b (l.map pg))).2)):=nB hown.out EZ.out.size;have HB9:=zh (EZ.out.trans (hb.mono EZ.out.size));clear hown hb;go_wp2_with fail;go_ret2;exact⟨v,by rw[HEQ.out];rfl,by rw[HEQ.out];exact HO,HB9.out⟩
end Go.Proofs.YtaeobegaodhpcaaGreatDoor
namespace Go.Proofs.YtaeobegaodhpcaaGreatDoor
open Go.RowKit
theorem JO {t:TypeId} {n:Nat} (h:(Tryz.prog.info? t).map (·.size)=some n) (w:World):(sizeOf t).run Tryz.prog w=.ok n w:=by
 cases hi:Tryz.prog.info? t with
 | none=>rw[hi] at h;cases h
 | some i=>rw[hi] at h;injection h with h;simp[sizeOf,typeInfo,hi,h]
theorem eS {P:Program} {ops:Array Oper} {S:World→Prop} {op:Oper} {a:Act} (hw:Region.wanted op (yielded ops a.tmps)=true) (t:TypeId) (parts:List (Nat × Operand)) (ho:op.op=.build t parts.toArray)
 (vs:List (Nat × Value)) (hv:(parts.map fun (i,x)=>(i,a.eval x))=vs) (v:Value) (hrun:∀ w,S w→(Instr.build t vs.toArray).run P w=.ok v w):YieldsIf P ops S op v a :=
 .inl ⟨hw,fun w hw'=>by
  unfold execOp;simp only[ho,Sem.run_bind,List.map_toArray,hv,hrun w hw',Result.andThen_ok,Sem.run_pure]⟩
def slZ (sp:Option Addr) (k sz cap:Nat):Option Addr:=if cap=k then sp else sp.map (·.add (k*sz))
theorem rJ {t e:TypeId} {sz:Nat} (ht:Tryz.prog.underlying t=some (.slice e)) (he:(Tryz.prog.info? e).map (·.size)=some sz) (w:World) (sp:Option Addr) (n cap k:Nat) (hk:k≤n) :
 (Instr.slice t (.slice sp n cap) (some (.int .i64 k)) none none).run Tryz.prog w=.ok (.slice (slZ sp k sz cap) (n-k) (cap-k)) w:=by
 have h1:(0:Int)≤(k:Int)∧(k:Int)≤(n:Int):=⟨by omega,by omega⟩;simp[Instr.slice,Instr.sliceBounds,Instr.sliceBound,asIntOf,run_underlying ht,JO he,hk,slZ]
theorem LinesIn.from {w:World} {B:Nat} {sp:Option Addr} {n cap:Nat} {ls:List Ln} (h:LinesIn w B sp n ls) {k:Nat} (hk:k≤n) (hc:n≤cap):LinesIn w B (slZ sp k 1 cap) (n-k) (ls.drop k) :=
 ⟨by rw[List.length_drop,h.len],fun hn=>by
  obtain⟨b,off,rfl,hlt,hcell⟩:=h.cells zo;refine⟨b,off+k,?_,hlt,fun j hj=>?_⟩
  ·unfold slZ;rw[if_neg zo];simp[Addr.add]
  ·rw[List.length_drop] at hj;rw[List.getElem_drop,Nat.add_assoc];exact hcell (k+j) zo,fun q hq=>h.each q (List.mem_of_mem_drop hq)⟩
theorem StrsIn.from {w:World} {B:Nat} {sp:Option Addr} {n cap:Nat} {l:List ByteArray} (h:StrsIn w B sp n l) {k:Nat} (hk:k≤n) (hc:n≤cap):StrsIn w B (slZ sp k 1 cap) (n-k) (l.drop k) :=
 ⟨by rw[List.length_drop,h.len],fun hn=>by
  obtain⟨b,off,rfl,hlt,hcell⟩:=h.cells zo;refine⟨b,off+k,?_,hlt,fun j hj=>?_⟩
  ·unfold slZ;rw[if_neg zo];simp[Addr.add]
  ·rw[List.length_drop] at hj;rw[List.getElem_drop,Nat.add_assoc];exact hcell (k+j) zo⟩
theorem ZP:(Tryz.prog.info? 55).map (·.size)=some 1:=by kernel_rfl
theorem DW:(Tryz.prog.info? 9).map (·.size)=some 1:=by kernel_rfl
theorem qQ {w:World} {base e size n cap:Nat} {sp:Option Addr} {xs:List Value} (h:w.ownsRow base e size (.slice sp n cap) n xs):n≤cap:=by
 obtain⟨_,⟨e,e0⟩ | ⟨g,cap',cur,e,_,_,hle,_⟩⟩:=h
 ·omega
 ·injection e with _ _ e;omega
end Go.Proofs.YtaeobegaodhpcaaGreatDoor
namespace Go.Proofs.YtaeobegaodhpcaaGreatDoor
open Go.RowKit Go.Proofs.YtaeobegaodhpcaaGreatDoor.One
def zSg:Sg:=⟨0,bQ,0,none,0,0,[],none,0,0,[]⟩
theorem bW:OkG zSg:=aN
theorem fN (w:World):(Instr.build 50 #[]).run Tryz.prog w=.ok (.agg (aX zSg).toArray) w:=by kernel_rfl
theorem zSg_T (w:World) (B:Nat):SgT w B zSg:=⟨bW,OwnHv.nil _ _,OwnHv.nil _ _,rfl,rfl⟩
def RsL (l:List ByteArray) (w:World) (e:Ending) (w':World):Prop:=∃ x:Sg,e=.returned (.tuple #[.agg (aX x).toArray,.bool (rsK l)])∧SgT w' w.heap.size x∧(rsK l=true→pg x=rsP l)∧Below w.heap.size w w'
theorem RsL.no {l:List ByteArray} {w w':World} {e:Ending} (hk:rsK l=false) (he:e=.returned (.tuple #[.agg (aX zSg).toArray,.bool false])) (hb:Below w.heap.size w w'):RsL l w e w' :=
 ⟨zSg,by rw[hk];exact he,zSg_T _ _,fun h=>absurd h (by rw[hk];simp),hb⟩
theorem xZ {l:List ByteArray} (h:l.length<3):rsK l=false:=by unfold rsK;rw[decide_eq_false zo];rfl
theorem DF {l:List ByteArray} (h:wdN l 0≠jB):rsK l=false:=by unfold rsK;rw[decide_eq_false h];simp
theorem SP {l:List ByteArray} (h:3≤l.length) (h0:wdN l 0=jB):rsK l=((pnk (wdN l 1).data.toList && decide (pnv (wdN l 1).data.toList≤6)) && (hpK (wdN l 2) && rdK (l.drop 3))):=by unfold rsK;rw[decide_eq_true h,decide_eq_true h0];rfl
theorem FE {l:List ByteArray} {k:Nat} (h:k<l.length):l[k]=wdN l k:=by unfold wdN;rw[List.getD_eq_getElem?_getD,List.getElem?_eq_getElem h];rfl
theorem uZ (s:ByteArray):(s=jB↔s.toList=[115,105,103,110,97,116,117,114,101]):=by
 constructor
 ·rintro rfl;rw[Lib.toList_data];rfl
 ·intro h;rw[Lib.toList_data] at h;have:s.data=#[115,105,103,110,97,116,117,114,101]:=Array.toList_inj.1 h;show s=⟨#[115,105,103,110,97,116,117,114,101]⟩;rw[←this]
theorem BF (sp:Option Addr) (n cap:Nat) (l:List ByteArray) (w:World) (hl:StrsIn w w.heap.size sp n l) (hcap:n≤cap) (hn:n≤1000000) (hmx:∀ s ∈ l,s.size≤9223372036854775807) :
 Calls Tryz.prog 50 #[.slice sp n cap] w (RsL l w):=by
 have HL:=zh hl;have HMX:=zh hmx;have hlen:=hl.len;clear hl hmx;have HZ:=zh (heap_alloc_new w (.cells zG.toArray 50));have HB:=zh (aA w (.cells zG.toArray 50));have HS:=zh (aF w (.cells zG.toArray 50))
 go_enter Tryz.func50,Tryz.ntmps50
 go_upto_region 1 with (fail)
 generalize hw0:World.alloc w _=w0;have HZ0:Hid (Ah w0 w.heap.size zG.toArray 50):=by rw[←hw0];exact HZ.out
 have HB0:Hid (Bw w w0):=by rw[←hw0];exact HB.out
 have hs0:w.heap.size+1≤w0.heap.size:=by rw[←hw0];exact Nat.le_of_eq HS.out.symm
 clear hw0 HZ HB HS;by_cases h1:n<3
 ·have q1:decide ((n:Int)<3)=true:=by simp;omega
  have hbi:=fN
  go_wp2_with (refine wpList_store_row rfl 50 _ _ rfl w.heap.size (aX zSg).toArray rfl rfl 50 _ HZ0.out (aS bW) (bR bW) (bG zSg) ?_)
  exact bodyPost_ret (aC (P:=Tryz.prog) rfl _ _ w.heap.size 50 _ (0,0) _ rfl (setRow_heap _ _ _ _ _ _ HZ0.out) Tryz.underlying50 rfl (aS bW)) rfl (RsL.no (xZ zo) rfl (below_setRow HB0.out zl _))
 have q1:decide ((n:Int)<3)=false:=by simp;omega
 have HRK:=zh (@SP l zo);have HRH:=zh (@DF l);obtain⟨wb,wo,rfl,hwb,hcw⟩:=HL.out.cells zo;have p0:(0:Int)<(n:Int):=by omega
 have p1:(1:Int)<(n:Int):=by omega
 have p2:(2:Int)<(n:Int):=by omega
 have HC:Hid (∀ w',Below w.heap.size w w'→∀ k,k<3→w'.cell? ⟨wb,wo+k,none⟩=some (.string (wdN l k))):=fun w' hb k hk=>by
  rw[←FE (show k<l.length by omega)];exact (hb.cell (p:=⟨wb,wo+k,none⟩) hwb).trans (hcw k zo)
 have HM1:Hid ((wdN l 1).size≤9223372036854775807):=by
  show _≤_;rw[←FE (show 1<l.length by omega)];exact HMX.out _ (List.getElem_mem _)
 have HM3:Hid ((hdB (l.drop 3)).size≤9223372036854775807):=by
  show _≤_;unfold hdB;rw[List.getD_eq_getElem?_getD]
  cases hd:(l.drop 3)[0]? with
  | none=>exact Nat.zero_le _
  | some s=>exact HMX.out s (List.mem_of_mem_drop (List.mem_of_getElem? hd))
 have HSD:Hid (StrsIn w w.heap.size (slZ (some ⟨wb,wo,none⟩) 3 1 cap) (n-3) (l.drop 3)):=HL.out.from zo hcap
 have HPH:Hid (rsP l=⟨pnv (wdN l 1).data.toList,hpB (wdN l 2),rdA (l.drop 3),rdC (l.drop 3),rdP (l.drop 3)⟩):=rfl;have c0:w0.cell? ⟨wb,wo,none⟩=some (.string (wdN l 0)):=HC.out w0 HB0.out 0 zo;have hcp:n-3≤cap-3:=by omega
 have hn3:n-3≤1000000:=by omega
 clear hcw HMX hlen;by_cases hsw:wdN l 0=jB
 case neg =>
  have hk:=HRH.out hsw;have HKF:=zh hk;have hs:=mt (uZ (wdN l 0)).2 hsw;have e1:((wdN l 0).toList == [115,105,103,110,97,116,117,114,101])=false:=by rw[beq_eq_false_iff_ne];exact hs
  have e2:decide ((wdN l 0).toList=[115,105,103,110,97,116,117,114,101])=false:=decide_eq_false hs;clear hsw hk HRK HRH HPH HSD HM1 HM3;generalize wdN l 0=s0 at *;have hbi:=fN
  go_wp2_with (refine wpList_store_row rfl 50 _ _ rfl w.heap.size (aX zSg).toArray rfl rfl 50 _ HZ0.out (aS bW) (bR bW) (bG zSg) ?_)
  exact bodyPost_ret (aC (P:=Tryz.prog) rfl _ _ w.heap.size 50 _ (0,0) _ rfl (setRow_heap _ _ _ _ _ _ HZ0.out) Tryz.underlying50 rfl (aS bW)) rfl (RsL.no HKF.out rfl (below_setRow HB0.out zl _))
 have RT:=zh (HRK.out hsw);have hs:=(uZ (wdN l 0)).1 hsw;have e1:((wdN l 0).toList == [115,105,103,110,97,116,117,114,101])=true:=by rw[hs];rfl
 have e2:decide ((wdN l 0).toList=[115,105,103,110,97,116,117,114,101])=true:=decide_eq_true hs;clear hsw HRK HRH;have HCN:=zh (kT (wdN l 1) w0 HM1.out);have c1:=HC.out w0 HB0.out 1 zo;go_wp2_with fail;clear c0 c1 e1 e2 hs;refine HCN.out.mono ?_;rintro e w' ⟨rfl,rfl⟩;clear HCN HM1;have HCH:=zh (nX (wdN l 2) w0);have cQ:Hid (H16 (hpB (wdN l 2))):=vI _;have HHP:Hid (hpK (wdN l 2)=pok (wdN l 2).data.toList 16):=rfl;have HHB:Hid (hpB (wdN l 2)=pby (wdN l 2).data.toList 16):=rfl;have c2:=HC.out w0 HB0.out 2 zo;generalize pnk (wdN l 1).data.toList=K1 at *;generalize pnv (wdN l 1).data.toList=V1 at *;rw[←HHP.out,←HHB.out] at HCH;generalize hpK (wdN l 2)=K2 at *;generalize hpB (wdN l 2)=R2 at *;go_wp2_with fail;clear c2;refine HCH.out.mono ?_;rintro e w1 ⟨rfl,hb⟩;have HB1:=zh hb;clear hb HCH HHP HHB;have hs1:=HB1.out.size;have HZN:=zh (Zro.new w1);have HRB:=zh (RowB.new w1 42 R2)
 go_upto_region 5 with (refine wpList_store_row rfl 42 _ _ rfl w1.heap.size (hvA R2) rfl rfl 42 _ HZN.out.z (aI cQ.out) (cE cQ.out) (cM _) ?_;rw[aK];generalize hw9:World.alloc w1 _=w2;have HR2:Hid (RowB w1 42 R2 w2):=(by rw[←hw9];exact HRB.out);clear hw9 HZN HRB)
 have hs2:w1.heap.size+1≤w2.heap.size:=Nat.le_of_eq HR2.out.s.symm;have uN:Hid (Bw w w2):=HB0.out.trans ((HB1.out.mono zo).trans (HR2.out.b.mono zo));have HZ2:Hid (Ah w2 w.heap.size zG.toArray 50):=(HR2.out.b.block _ zo).trans ((HB1.out.block _ zo).trans HZ0.out);have HX2:=zh (HR2.out.r);obtain⟨gh,hgh⟩:∃ gh,gh=w1.heap.size:=⟨_,rfl⟩;rw[←hgh] at HX2 hs2;rw[←hgh];have hgw:w.heap.size<gh:=by omega
 clear hgh HR2 HB1 HZ0 hs1 HB0;have hsl:=rJ (t:=55) Tryz.underlying55 DW w2 (some ⟨wb,wo,none⟩) n cap 3 zo;rw[show ((3:Nat):Int)=3 from rfl] at hsl;have HCR:=zh (PP (slZ (some ⟨wb,wo,none⟩) 3 1 cap) (n-3) (cap-3) (l.drop 3) w2 ((HSD.out.below uN.out zl).more zo) hcp hn3 HM3.out);go_wp2_with fail;clear hsl;refine HCR.out.mono ?_;rintro e w3 ⟨sp1,c1,sp2,c2,rfl,ho1,ho2,hb⟩;have HB3:=zh hb;have HO1:=zh ho1;have HO2:=zh ho2;clear hb ho1 ho2 HCR HSD HC;generalize rdA (l.drop 3)=A3 at *;generalize rdC (l.drop 3)=C3 at *;generalize rdP (l.drop 3)=P3 at *;generalize rdK (l.drop 3)=K3 at *;have hs3:=HB3.out.size;have HZS:=zh (heap_alloc_new w3 (.cells (siA 0 aH aH) 48))
 go_upto_region 6 with (refine wpList_store_row rfl 48 _ _ rfl w3.heap.size (siA A3 (.slice sp1 C3.length c1) (.slice sp2 P3.length c2)) rfl rfl 48 _ HZS.out (aL _ _ _) rfl (cO _ _ _ _ _ _ _) ?_;rw[aK];generalize hw9:World.alloc w3 _=w4;have HS4:Hid (Ah w4 w3.heap.size (siA A3 (.slice sp1 C3.length c1) (.slice sp2 P3.length c2)) 48):=(by rw[←hw9];exact heap_alloc_new _ _);have HB4:Hid (Bw w3 w4):=(by rw[←hw9];exact aA _ _);clear hw9 HZS)
 have hs4:=HB4.out.size;have xE:Hid (Bw w w4):=uN.out.trans ((HB3.out.mono zo).trans (HB4.out.mono zo));have HZ4:Hid (Ah w4 w.heap.size zG.toArray 50):=(HB4.out.block _ zo).trans ((HB3.out.block _ zo).trans HZ2.out);have HX4:Hid (Ah w4 gh (hvA R2) 42):=(HB4.out.block _ zo).trans ((HB3.out.block _ zo).trans HX2.out);have XM:=zh (HO1.out.below HB4.out);have XL:=zh (HO2.out.below HB4.out);generalize w3.heap.size=gs at *;have hw2:w.heap.size≤w2.heap.size:=uN.out.size;clear HB4 HB3 HX2 HZ2 uN HO1 HO2;by_cases hq:K1=true∧V1≤6∧K2=true∧K3=true
 ·obtain⟨rfl,h6,rfl,rfl⟩:=hq;have HRT:Hid (rsK l=true):=by show _=_;rw[RT.out,decide_eq_true h6];rfl
  have d6:decide (V1>6)=false:=by simpa using h6
  clear RT;obtain⟨X,hX⟩:∃ X:Sg,X=⟨V1,R2,A3,sp1,C3.length,c1,C3,sp2,P3.length,c2,P3⟩:=⟨_,rfl⟩;have HOK:Hid (OkG X):=by rw[hX];exact cQ.out
  have HBG:Hid (∀ w',(Instr.build 50 #[(0,.agg (pkA V1 R2)),(1,.agg (siA A3 (.slice sp1 C3.length c1) (.slice sp2 P3.length c2)))]).run Tryz.prog w'=.ok (.agg (aX X).toArray) w'):=by
   show ∀ _,_;intro w';rw[hX];exact ER ⟨V1,R2,A3,sp1,C3.length,c1,C3,sp2,P3.length,c2,P3⟩ cQ.out w'
  have HXT:Hid (SgT (w4.setRow w.heap.size (aX X).toArray) w.heap.size X):=by
   have h1:=OwnHv.setRow (base:=w.heap.size) (XM.out.base hw2) HZ4.out (by decide) (aX X).toArray;have h2:=OwnHv.setRow (base:=w.heap.size) (XL.out.base hw2) HZ4.out (by decide) (aX X).toArray;generalize w4.setRow w.heap.size (aX X).toArray=wz at *;rw[hX];exact⟨cQ.out,h1,h2,rfl,rfl⟩
  have HXP:Hid (pg X=rsP l):=by show _=_;rw[hX];exact HPH.out.symm
  clear hX XM XL
  go_wp2_with (first
   | (refine wpList_load_row rfl 42 _ rfl gh rfl 42 _ (0,0) _ HX4.out Tryz.underlying42 rfl (aI cQ.out) ?_)
   | (refine wpList_load_row rfl 48 _ rfl gs rfl 48 _ (0,0) _ HS4.out Tryz.underlying48 rfl (aL _ _ _) ?_)
   | (refine bB rfl 44 [(0,.tmp 55),(1,.tmp 56)] rfl [(0,.int .i64 V1),(1,.agg (hvA R2))] rfl _ (wH V1 R2 cQ.out _) ?_)
   | (refine bB rfl 50 [(0,.tmp 57),(1,.tmp 58)] rfl [(0,.agg (pkA V1 R2)),(1,.agg (siA A3 (.slice sp1 C3.length c1) (.slice sp2 P3.length c2)))] rfl _ (HBG.out _) ?_)
   | (refine wpList_store_row rfl 50 _ _ rfl w.heap.size (aX X).toArray rfl (by kernel_rfl) 50 _ HZ4.out (aS HOK.out) (bR HOK.out) (bG X) ?_))
  refine bodyPost_ret (aC (P:=Tryz.prog) rfl _ _ w.heap.size 50 _ (0,0) _ rfl (setRow_heap _ _ _ _ _ _ HZ4.out) Tryz.underlying50 rfl (aS HOK.out)) rfl ⟨X,by rw[HRT.out];rfl,HXT.out,fun _=>HXP.out,below_setRow xE.out zl _⟩
 ·have HRT:Hid (rsK l=false):=by
   show _=_;rw[RT.out]
   cases K1 <;> cases K2 <;> cases K3 <;> simp at hq ⊢
   omega
  clear RT HPH XM XL HS4 HX4
  cases K1
  ·clear hq;have hbi:=fN
   go_wp2_with (refine wpList_store_row rfl 50 _ _ rfl w.heap.size (aX zSg).toArray rfl rfl 50 _ HZ4.out (aS bW) (bR bW) (bG zSg) ?_)
   exact bodyPost_ret (aC (P:=Tryz.prog) rfl _ _ w.heap.size 50 _ (0,0) _ rfl (setRow_heap _ _ _ _ _ _ HZ4.out) Tryz.underlying50 rfl (aS bW)) rfl (RsL.no HRT.out rfl (below_setRow xE.out zl _))
  by_cases h6:V1≤6
  case neg =>
   have d6:decide (V1>6)=true:=by simpa using h6
   clear hq h6;have hbi:=fN
   go_wp2_with (refine wpList_store_row rfl 50 _ _ rfl w.heap.size (aX zSg).toArray rfl rfl 50 _ HZ4.out (aS bW) (bR bW) (bG zSg) ?_)
   exact bodyPost_ret (aC (P:=Tryz.prog) rfl _ _ w.heap.size 50 _ (0,0) _ rfl (setRow_heap _ _ _ _ _ _ HZ4.out) Tryz.underlying50 rfl (aS bW)) rfl (RsL.no HRT.out rfl (below_setRow xE.out zl _))
  have d6:decide (V1>6)=false:=by simpa using h6
  cases K2
  ·clear hq h6;have hbi:=fN
   go_wp2_with (refine wpList_store_row rfl 50 _ _ rfl w.heap.size (aX zSg).toArray rfl rfl 50 _ HZ4.out (aS bW) (bR bW) (bG zSg) ?_)
   exact bodyPost_ret (aC (P:=Tryz.prog) rfl _ _ w.heap.size 50 _ (0,0) _ rfl (setRow_heap _ _ _ _ _ _ HZ4.out) Tryz.underlying50 rfl (aS bW)) rfl (RsL.no HRT.out rfl (below_setRow xE.out zl _))
  cases K3
  ·clear hq h6;have hbi:=fN
   go_wp2_with (refine wpList_store_row rfl 50 _ _ rfl w.heap.size (aX zSg).toArray rfl rfl 50 _ HZ4.out (aS bW) (bR bW) (bG zSg) ?_)
   exact bodyPost_ret (aC (P:=Tryz.prog) rfl _ _ w.heap.size 50 _ (0,0) _ rfl (setRow_heap _ _ _ _ _ _ HZ4.out) Tryz.underlying50 rfl (aS bW)) rfl (RsL.no HRT.out rfl (below_setRow xE.out zl _))
  exact absurd ⟨rfl,h6,rfl,rfl⟩ hq
end Go.Proofs.YtaeobegaodhpcaaGreatDoor
