/-
  The walk of EnvelopeEncodes (conditions: the arguments read as envelopes and cases; the table of constants reads as it is laid).
-/
import Derived.Test.YtaeobegaodhpcaaGreatDoorZip
import Derived.Test.YtaeobegaodhpcaaGreatDoorEnlS
set_option maxRecDepth 100000
set_option maxHeartbeats 8000000
namespace Go.Proofs.YtaeobegaodhpcaaGreatDoor
open Go.RowKit Go.Proofs.YtaeobegaodhpcaaGreatDoor.One
structure BtR (g:Nat) (w:World):Prop where
 lt:g<w.heap.size
 c:∀ k,k<2→∃ sp n cap l,w.cell? ⟨g,k,none⟩=some (.slice sp n cap)∧BSrc w w.heap.size sp n cap l
theorem BtR.below {g:Nat} {w w':World} (h:BtR g w) (hb:Below w.heap.size w w'):BtR g w' :=
 ⟨Nat.lt_of_lt_of_le h.lt hb.size,fun k hk=>by
  obtain⟨sp,n,cap,l,h1,h2⟩:=h.c k hk;exact⟨sp,n,cap,l,(hb.cell (p:=⟨g,k,none⟩) h.lt).trans h1,fL h2 hb⟩⟩
theorem BtR.of {w:World} {s1 s2:Option Addr} {n1 n2 c1 c2:Nat} {l1 l2:List UInt8} (h1:BSrc w w.heap.size s1 n1 c1 l1) (h2:BSrc w w.heap.size s2 n2 c2 l2):BtR w.heap.size (w.alloc (.cells #[.slice s1 n1 c1,.slice s2 n2 c2] 22)):=by
 have hb:Below w.heap.size w (w.alloc (.cells #[.slice s1 n1 c1,.slice s2 n2 c2] 22)):=(Below.refl _ _).alloc zl _;have hr:=heap_alloc_new w (.cells #[.slice s1 n1 c1,.slice s2 n2 c2] 22);refine⟨by simp,fun k hk=>?_⟩
 match k,hk with
 | 0,_=>exact⟨s1,n1,c1,l1,by rw[cell_of_row _ _ 0 _ _ _ hr];rfl,fL h1 hb⟩
 | 1,_=>exact⟨s2,n2,c2,l2,by rw[cell_of_row _ _ 1 _ _ _ hr];rfl,fL h2 hb⟩
theorem mJ (t:ByteArray) (sp:Option Addr) (n cap:Nat) (b:List UInt8) (sq:Option Addr) (m cq:Nat) (l:List Sg) (sp0:Option Addr) (n0 cap0:Nat) (b0:List UInt8) (sc:Option Addr) (nc cc:Nat) (sn:List UInt8) (kk yy:Int) (bsp:Option Addr) (bn bcap:Nat) (bl:List UInt8) (w:World) (hp:BSrc w w.heap.size sp n cap b) (hpn:sp=none→cap=0) (hl:SgsIn w w.heap.size sq m cq l) (hln:sq=none→cq=0) (hp0:BSrc w w.heap.size sp0 n0 cap0 b0) (hp0n:sp0=none→cap0=0) (hn0:n0≤cap0) (hs:BSrc w w.heap.size sc nc cc sn) (hyy:0≤yy∧yy<256) (hbs:BSrc w w.heap.size bsp bn bcap bl) (hk:KayIn w) (hk0:4<w.heap.size) (h10:P10In w) (h100:1<w.heap.size) :
 Calls Tryz.prog 3 #[.agg (enA t (.slice sp n cap) (.slice sq m cq)),.slice bsp bn bcap,.agg (caA (.slice sp0 n0 cap0) (.slice sc nc cc) kk yy)] w fun e w'=>e=.returned (.bool true)∧Below w.heap.size w w':=by
 have HP:=zh hp;have HPN:=zh hpn;have HL:=zh hl;have HLN:=zh hln;have HP0:=zh hp0;have HP0N:=zh hp0n;have HSN:=zh hs;have HK:=zh hk;have HBS:=zh hbs;have H10:=zh h10;have HY:=zh hyy;have HN0:=zh hn0;have HE:=zh (heap_alloc_new w (.cells (enA t (.slice sp n cap) (.slice sq m cq)) 25));clear hp hpn hl hln hp0 hp0n hs hk hyy hn0 h10 hbs
 go_enter Tryz.func3,Tryz.ntmps3
 go_upto_region 1 with fail
 generalize hwz:World.alloc w _=wz;generalize hw0:World.alloc wz _=w0;have HEz:Hid (Ah wz w.heap.size (enA t (.slice sp n cap) (.slice sq m cq)) 25):=by rw[←hwz];exact HE.out
 have HBz:Hid (Bw w wz):=by rw[←hwz];exact aA _ _
 have hsz:wz.heap.size=w.heap.size+1:=by rw[←hwz];simp
 have HC0:Hid (Ah w0 (w.heap.size+1) (caA (.slice sp0 n0 cap0) (.slice sc nc cc) kk yy) 27):=by rw[←hw0,←hsz];exact heap_alloc_new _ _
 have CR:Hid (Bw wz w0):=by rw[←hw0];exact aA _ _
 have hs0:w0.heap.size=w.heap.size+2:=by rw[←hw0,World.size_alloc,hsz]
 have HE0:Hid (Ah w0 w.heap.size (enA t (.slice sp n cap) (.slice sq m cq)) 25):=(CR.out.block _ zo).trans HEz.out;have HB0:Hid (Bw w w0):=HBz.out.trans (CR.out.mono zo)
 try rw[hsz]
 clear hwz hw0 HE HEz HBz CR hsz;have HCL:=zh (GF t (.slice sp n cap) sp n cap rfl sq m cq l w0 ((HL.out.below HB0.out zl).below (Below.refl w0.heap.size w0) zo))
 go_upto_region 2 with (refine wpList_load_row rfl 25 _ rfl w.heap.size rfl 25 _ (0,0) _ HE0.out Tryz.underlying25 rfl (aE _ _ _) ?_)
 refine HCL.out.mono ?_;rintro e w1 ⟨blt,rfl,hlt,hb⟩;have HB01:=zh hb;have HB1:Hid (Bw w w1):=HB0.out.trans (hb.mono zo);clear hb HCL;have hs1:=HB01.out.size
 cases blt
 ·go_wp2_with fail;go_ret;exact⟨rfl,HB1.out⟩
 by_cases hbig:100000<bn
 ·have qb:decide ((bn:Int)>100000)=true:=by simp;omega
  go_wp2_with fail;go_ret;exact⟨rfl,HB1.out⟩
 have qb:decide ((bn:Int)>100000)=false:=by simp;omega
 have aBj:=zh (hlt rfl);clear hlt;have HE1:Hid (Ah w1 w.heap.size (enA t (.slice sp n cap) (.slice sq m cq)) 25):=(HB01.out.block _ zo).trans HE0.out;have HC1:Hid (Ah w1 (w.heap.size+1) (caA (.slice sp0 n0 cap0) (.slice sc nc cc) kk yy) 27):=(HB01.out.block _ zo).trans HC0.out;clear HE0 HC0 HB01;have HEX:Hid (EvX w1 t sp n cap b sq m cq l):=⟨aBj.out.2.1,aBj.out.1,aBj.out.2.2.1,(HP.out.below HB1.out zl).more HB1.out.size,HPN.out,HL.out.up HB1.out zl,HLN.out,fun y hy=>by have:=aBj.out.2.2.2 y hy;omega⟩;obtain⟨B,hBe⟩:∃ B,B=w1.heap.size:=⟨_,rfl⟩;have sN:Hid (Blks B w1 w1 []):=Blks.start (Below.refl _ _) (Nat.le_of_eq hBe);have HLT:Hid (w.heap.size<B∧w.heap.size+1<B):=⟨by omega,by omega⟩;have HBe:=zh hBe;have HCM:Hid (∀ w',Below B w1 w'→Calls Tryz.prog 6 #[.agg (caL (.slice sp0 n0 cap0) (.slice sc nc cc) kk yy).toArray] w' (MdX w')):=fun w' hb=>by
  have hbb:Below w.heap.size w w':=HB1.out.trans (hb.mono (by have:=HLT.out;omega));exact (QE n0 cap0 sp0 b0 sc nc cc sn kk yy w' ((HP0.out.below hbb zl).more hbb.size) HP0N.out ((HSN.out.below hbb zl).more hbb.size) HN0.out HY.out).mono fun e w'' hh=>hh.X
 clear hBe
 go_upto_region 3 with fail
 go_cut [30,31,32] (fun s13 s14 s15 wx=>∃ gR,s13=.slice (some ⟨gR,0,none⟩) 2 2∧s14=.int .i64 2∧s15=.int .i64 0∧Hid (EvR wx gR∧Below B w1 wx))
 case first =>
  as_aux_lemma =>
   refine wp_region_held_drew (S:=fun w'=>Below B w1 w') (by kernel_rfl) sN.out.b.drew (fun hHeld=>?_);refine' zk 0 rfl (v:=_) (yieldsIf_load_mid (by rfl) _ _ rfl _ _ rfl _ _ ?hS0n5 Tryz.underlying25 rfl (jK _ _ _)) ?rest0n5
   case hS0n5 =>
    intro w' hSw;exact bC (L:=(enL t (.slice sp n cap) (.slice sq m cq))) ((hSw.block _ HLT.out.1).trans HE1.out)
   try simp only[Act.put,zu]
   refine' zk 1 rfl (v:=_) (yieldsIf_load_mid (by rfl) _ _ rfl _ _ rfl _ _ ?hS1n6 Tryz.underlying27 rfl (ZR _ _ _ _)) ?rest1n6
   case hS1n6 =>
    intro w' hSw;exact bC (L:=(caL (.slice sp0 n0 cap0) (.slice sc nc cc) kk yy)) ((hSw.block _ HLT.out.2).trans HC1.out)
   try simp only[Act.put,zu]
   refine zv 5 rfl ?_;refine zr 2 rfl (fun K hK=>?_);go_simp
   with_reducible refine (HCM.out _ (sN.out.drew).b).mono ?_
   rintro e v1 ⟨⟨t2,a1,n1,c1,b2,a2,n2,c2,l2,rfl,hev⟩,hb⟩;have cA:=zh (sN.out.call ((Below.refl _ _).drew.trans hb));have HEVv1:=zh hev;clear hev;clear hb;go_wp2_with fail;refine hK.out _ _ cA.out.b fun _=>?_;clear hK K;refine zr 3 rfl (fun K hK=>?_);rw[if_pos (by rfl)];refine aZ 30 2 [(0,.tmp 27),(1,.tmp 29)] rfl [(0,.agg (enL t (.slice sp n cap) (.slice sq m cq)).toArray),(1,.agg (enL t2 (.slice a1 n1 c1) (.slice a2 n2 c2)).toArray)] rfl _ _ (UD _ _ _ _ _ _ _) ?_;obtain⟨gR,v2,hg,hw,bJ,hU⟩:=cA.out.allocd (.cells ((enL t (.slice sp n cap) (.slice sq m cq))++(enL t2 (.slice a1 n1 c1) (.slice a2 n2 c2))).toArray 25 (0,0));go_simp
   try rw[hg]
   generalize hq:World.alloc v1 _=q;obtain rfl:v2=q:=hw.symm.trans hq;clear hg hw hq;have HEVv2:=zh (HEVv1.out.below hU.out);refine hK.out _ _ bJ.out.b fun _=>?_;clear hK K;refine zv 4 rfl ?_;refine zd ?_ _;go_wp2_with fail;go_meet;exact⟨gR,rfl,rfl,rfl,EvR.of (bJ.out.at 0 rfl) (HEX.out.below (show Below w1.heap.size w1 v2 from by rw[←HBe.out];exact bJ.out.b)) HEVv2.out,bJ.out.b⟩
 case rest =>
 obtain⟨gR,rfl,rfl,rfl,HQ⟩:=hcut;have HBc:=zh (HB1.out.trans (HQ.out.2.mono (Nat.le_of_lt HLT.out.1)));clear sN HCM HEX HE1 HC1 aBj;go_wp2_with fail
 go_loopw [32] (fun i wr=>∃ k:Nat,i=.int .i64 k∧k≤2∧Hid (EvR wr gR)∧Hid (Below w.heap.size w wr)) (fun i _=>2-(intOf i).toNat)
 case atStart=>exact⟨0,rfl,by omega,HQ.out.1,HBc.out⟩
 case round =>
  obtain⟨k,rfl,hk2,HR,HB⟩:=hrel;by_cases hlt:k<2
  ·have hd:decide ((k:Int)<2)=true:=by simp;omega
   obtain⟨tx,px,nx,cx,bx,qx,mx,dx,lx,hev,hrow⟩:=HR.out.e k hlt;have HEVX:=zh hev;have mL:=zh hrow;clear hev hrow;have p1:(0:Int)≤(k:Int):=by omega
   have p2:(k:Int)<(2:Int):=by omega
   have HZS:=zh (heap_alloc_new wr (.cells zEn 25))
   go_upto_region 6 with (first
    | (refine wpList_load_mid rfl 25 _ rfl gR (k*3) rfl _ _ mL.out Tryz.underlying25 rfl (jK _ _ _) ?_)
    | (refine wpList_store_row rfl 25 _ _ rfl wr.heap.size (enA tx (.slice px nx cx) (.slice qx mx dx)) rfl rfl 25 _ HZS.out (aE _ _ _) rfl (bI _ _ _ _ _ _ _) ?_;rw[aK];generalize hw4:World.alloc wr _=w4;have HX4':Hid (w4.heap[wr.heap.size]? = some (.cells (enA tx (.slice px nx cx) (.slice qx mx dx)) 25 (0,0))):=(by rw[←hw4];exact heap_alloc_new _ _);have HBr4:Hid (Below wr.heap.size wr w4):=(by rw[←hw4];exact aA _ _);have hs4:w4.heap.size=wr.heap.size+1:=(by rw[←hw4];simp);clear hw4 HZS))
   obtain⟨gX,hgX⟩:∃ gX,gX=wr.heap.size:=⟨_,rfl⟩;have HX4:Hid (Ah w4 gX (enA tx (.slice px nx cx) (.slice qx mx dx)) 25):=by rw[hgX];exact HX4'.out
   rw[←hgX];have aBm:=zh (HEVX.out.below HBr4.out);have HR4:=zh (HR.out.below HBr4.out);have HB4:=zh (HB.out.trans (HBr4.out.mono HB.out.size));clear HX4' hgX hs4 HEVX mL HR HB HBr4;have HCE:=zh (CC tx px nx cx bx qx mx dx lx w4 aBm.out.tl aBm.out.p aBm.out.s (HK.out.below HB4.out hk0) (Nat.lt_of_lt_of_le hk0 HB4.out.size) (H10.out.below HB4.out h100) (Nat.lt_of_lt_of_le h100 HB4.out.size))
   go_wp2_with (refine wpList_load_row rfl 25 _ rfl gX rfl 25 _ (0,0) _ HX4.out Tryz.underlying25 rfl (aE _ _ _) ?_)
   refine HCE.out.mono ?_;rintro e w5 ⟨v5,rfl,hv5,hb5⟩;have HV5:=hv5;have HEV5:=zh (aBm.out.below hb5);have HR5:=zh (HR4.out.below hb5);have HB5:=zh (HB4.out.trans (hb5.mono HB4.out.size));have HX5:Hid (Ah w5 gX (enA tx (.slice px nx cx) (.slice qx mx dx)) 25):=(hb5.block _ (Array.getElem?_eq_some_iff.1 HX4.out).1).trans HX4.out;clear hb5 hv5 HCE aBm HR4 HB4 HX4;have HCR:=zh (yH tx px nx cx bx qx mx dx lx w5 HEV5.out.tl HEV5.out.p HEV5.out.s);obtain⟨E,hE⟩:∃ E,E=WF tx bx (lx.map pg):=⟨_,rfl⟩;rw[←hE] at HV5 HCR;rw[←hE];clear hE;obtain⟨s5,c5,rfl⟩:=aM HV5.out;have HP5:=zh (AB HV5.out);clear HV5
   go_wp2_with (refine wpList_load_row rfl 25 _ rfl gX rfl 25 _ (0,0) _ HX5.out Tryz.underlying25 rfl (aE _ _ _) ?_)
   refine HCR.out.mono ?_;rintro e w6 ⟨v6,rfl,hv6,hb6⟩;have HV6:=hv6;have HR6:=zh (HR5.out.below hb6);have HB6:=zh (HB5.out.trans (hb6.mono HB5.out.size));have HP6:=zh (fL HP5.out hb6);clear hb6 hv6 HCR HEV5 HR5 HB5 HX5 HP5;obtain⟨s6,c6,rfl⟩:=aM HV6.out;have HQ6:=zh (AB HV6.out);clear HV6;have q1:=cU (c2:=c5) HP6.out;have q2:=cU (c2:=c6) HQ6.out;generalize E.2.length=nE at *;generalize E.1=eE at *;generalize E.2=lE at *;have hee:(((eE:Nat):Int) != ((eE:Nat):Int))=false:=by simp
   have HBS6:=zh ((HBS.out.below HB6.out zl).more HB6.out.size)
   go_upto_region 10 with fail
   clear q1 q2 hee HQ6;have HBT:=zh (BtR.of HBS6.out HP6.out);have HBTB:Hid (Below w6.heap.size w6 (w6.alloc (.cells #[.slice bsp bn bcap,.slice s5 nE c5] 22))):=aA _ _
   go_upto_region 11 with fail
   generalize World.alloc w6 _=w7 at *;have HR7:=zh (HR6.out.below HBTB.out);have HB7:=zh (HB6.out.trans (HBTB.out.mono HB6.out.size));clear HR6 HB6 HP6 HBS6 HBTB;generalize w6.heap.size=gB at *
   go_loopw [60] (fun i wr=>∃ k2:Nat,i=.int .i64 k2∧k2≤2∧Hid (BtR gB wr)∧Hid (EvR wr gR)∧Hid (Below w.heap.size w wr)) (fun i _=>2-(intOf i).toNat)
   case atStart=>exact⟨0,rfl,by omega,HBT.out,HR7.out,HB7.out⟩
   case round =>
    clear HBT HR7 HB7;obtain⟨k2,rfl,hk22,HBT,HR,HB⟩:=hrel;by_cases hlt2:k2<2
    ·have hd2:decide ((k2:Int)<2)=true:=by simp;omega
     obtain⟨sl,nl,cl,ll,ck,hbl⟩:=HBT.out.c k2 hlt2;have HBL:=zh hbl;have p3:(0:Int)≤(k2:Int):=by omega
     have p4:(k2:Int)<(2:Int):=by omega
     have HCD:=zh (CD sl nl cl ll wr hbl (HK.out.below HB.out hk0) (Nat.lt_of_lt_of_le hk0 HB.out.size));clear hbl;obtain⟨D,hD⟩:∃ D,D=MY (qJ ⟨ll.toArray⟩):=⟨_,rfl⟩;have HDE:=zh hD;rw[←hD] at HCD;clear hD;go_wp2_with fail;refine HCD.out.mono ?_;rintro e w8 ⟨y1,y2,y3,y4,y5,y6,ly,rfl,HY,hb8⟩;clear HCD ck;have HZS:=zh (heap_alloc_new w8 (.cells zEn 25))
     go_upto_region 14 with (refine wpList_store_row rfl 25 _ _ rfl w8.heap.size (enA D.t (.slice y1 y2 y3) (.slice y4 y5 y6)) rfl rfl 25 _ HZS.out (aE _ _ _) rfl (bI _ _ _ _ _ _ _) ?_;rw[aK];generalize hw9:World.alloc w8 _=w9;have HY9':Hid (w9.heap[w8.heap.size]? = some (.cells (enA D.t (.slice y1 y2 y3) (.slice y4 y5 y6)) 25 (0,0))):=(by rw[←hw9];exact heap_alloc_new _ _);have HB89:Hid (Bw w8 w9):=(by rw[←hw9];exact aA _ _);clear hw9 HZS)
     obtain⟨gY,hgY⟩:∃ gY,gY=w8.heap.size:=⟨_,rfl⟩;have HY9:Hid (Ah w9 gY (enA D.t (.slice y1 y2 y3) (.slice y4 y5 y6)) 25):=by rw[hgY];exact HY9'.out
     rw[←hgY];have HBr9:Hid (Bw wr w9):=hb8.trans (HB89.out.mono hb8.size);have HYI9:Hid (BSrc w9 w9.heap.size y1 y2 y3 D.b∧SgsIn w9 w9.heap.size y4 y5 y6 ly):=⟨fL HY.out.1 HB89.out,HY.out.2.1.up HB89.out zl⟩;have HYP:=zh HY.out.2.2;have HCQ:=zh (yL sl nl cl ll w9 (fL HBL.out HBr9.out));rw[←HDE.out] at HCQ;clear hgY HY9' HB89 hb8 HY HBL HDE;go_wp2_with fail;refine HCQ.out.mono ?_;rintro e w10 ⟨z1,z2,z3,z4,z5,z6,lz,rfl,HZ,hb10⟩;clear HCQ;have HZS:=zh (heap_alloc_new w10 (.cells zEn 25))
     go_upto_region 15 with (refine wpList_store_row rfl 25 _ _ rfl w10.heap.size (enA D.t (.slice z1 z2 z3) (.slice z4 z5 z6)) rfl rfl 25 _ HZS.out (aE _ _ _) rfl (bI _ _ _ _ _ _ _) ?_;rw[aK];generalize hw11:World.alloc w10 _=w11;have aAl:Hid (w11.heap[w10.heap.size]? = some (.cells (enA D.t (.slice z1 z2 z3) (.slice z4 z5 z6)) 25 (0,0))):=(by rw[←hw11];exact heap_alloc_new _ _);have FB:Hid (Bw w10 w11):=(by rw[←hw11];exact aA _ _);clear hw11 HZS)
     obtain⟨gZ,hgZ⟩:∃ gZ,gZ=w10.heap.size:=⟨_,rfl⟩;have HZ11:Hid (Ah w11 gZ (enA D.t (.slice z1 z2 z3) (.slice z4 z5 z6)) 25):=by rw[hgZ];exact aAl.out
     rw[←hgZ];have NY:Hid (Bw w9 w11):=hb10.trans (FB.out.mono hb10.size);have HY11:Hid (Ah w11 gY (enA D.t (.slice y1 y2 y3) (.slice y4 y5 y6)) 25):=(NY.out.block _ (Array.getElem?_eq_some_iff.1 HY9.out).1).trans HY9.out;have HCS:=zh (FV D.t y1 y2 y3 D.b y4 y5 y6 ly z1 z2 z3 z4 z5 z6 lz w11 (fL HYI9.out.1 NY.out) (fL HZ.out.1 FB.out) (HYI9.out.2.up NY.out zl) (HZ.out.2.1.up FB.out zl) (HYP.out.1.trans HZ.out.2.2.1.symm) (by rw[HYP.out.1];exact HYP.out.2.1) HYP.out.2.2);have XZ:=zh (HBr9.out.trans (NY.out.mono HBr9.out.size));have hdd:(((D.E:Nat):Int) != ((D.E:Nat):Int))=false:=by simp
     clear hgZ aAl hb10 FB NY HY9 HYI9 HYP HBr9 HZ
     go_wp2_with (first
      | (refine cD (by rfl)  25 _ rfl gY 0 rfl _ _ (bC (L:=enL D.t (.slice y1 y2 y3) (.slice y4 y5 y6)) HY11.out) Tryz.underlying25 rfl (jK _ _ _) ?_)
      | (refine cD (by rfl)  25 _ rfl gZ 0 rfl _ _ (bC (L:=enL D.t (.slice z1 z2 z3) (.slice z4 z5 z6)) HZ11.out) Tryz.underlying25 rfl (jK _ _ _) ?_))
     refine HCS.out.mono ?_;rintro e w12 ⟨rfl,hb12⟩;have RZ:=zh (XZ.out.trans (hb12.mono XZ.out.size));have HR12:=zh (HR.out.below RZ.out);have HBT12:=zh (HBT.out.below RZ.out);have HB12:=zh (HB.out.trans (RZ.out.mono HB.out.size));clear hb12 HCS HY11 HZ11 XZ RZ HR HBT HB;go_wp2_with fail;go_roundw
     case rel=>exact⟨k2+1,by go_num,by omega,HBT12.out,HR12.out,HB12.out⟩
     case measure=>simp[intOf];omega
    ·obtain rfl:k2=2:=by omega
     have hd2:decide (((2:Nat):Int)<2)=false:=by simp
     clear HBT;go_wp2_with fail;go_roundw
     case rel=>exact⟨k+1,by go_num,by omega,HR.out,HB.out⟩
     case measure=>simp[intOf];omega
  ·obtain rfl:k=2:=by omega
   have hd:decide (((2:Nat):Int)<2)=false:=by simp
   have hkw:4<wr.heap.size:=Nat.lt_of_lt_of_le hk0 HB.out.size;have HA:=zh (CJ wr (HK.out.below HB.out hk0) hkw);go_wp2_with fail;refine HA.out.mono ?_;rintro e w9 ⟨rfl,hb⟩;have HB9:=zh (HB.out.trans (hb.mono HB.out.size));clear hb HA;go_wp2_with fail;go_ret;exact⟨rfl,HB9.out⟩
theorem lM (t:ByteArray) (sp:Option Addr) (n cap:Nat) (b:List UInt8) (sq:Option Addr) (m cq:Nat) (l:List Sg) (bsp:Option Addr) (bn bcap:Nat) (bl:List UInt8) (sp0:Option Addr) (n0 cap0:Nat) (b0:List UInt8) (sc:Option Addr) (nc cc:Nat) (sn:List UInt8) (kk yy:Int) (w:World) (hp:BSrc w w.heap.size sp n cap b) (hpn:sp=none→cap=0) (hl:SgsIn w w.heap.size sq m cq l) (hln:sq=none→cq=0) (hbs:BSrc w w.heap.size bsp bn bcap bl) (hp0:BSrc w w.heap.size sp0 n0 cap0 b0) (hp0n:sp0=none→cap0=0) (hn0:n0≤cap0) (hs:BSrc w w.heap.size sc nc cc sn) (hyy:0≤yy∧yy<256) (hk:KayIn w) (hk0:4<w.heap.size) (h10:P10In w) (h100:1<w.heap.size) :
 Calls Tryz.prog 3 #[.agg (enA t (.slice sp n cap) (.slice sq m cq)),.slice bsp bn bcap,.agg (caA (.slice sp0 n0 cap0) (.slice sc nc cc) kk yy)] w fun e w'=>e=.returned (.bool true)∧Below w.heap.size w w' :=
 mJ t sp n cap b sq m cq l sp0 n0 cap0 b0 sc nc cc sn kk yy bsp bn bcap bl w hp hpn hl hln hp0 hp0n hn0 hs hyy hbs hk hk0 h10 h100
end Go.Proofs.YtaeobegaodhpcaaGreatDoor
