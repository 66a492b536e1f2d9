/-
  Envelopes: the walk of the reference's Same on two envelopes that say the same (conditions: at most 1000 signatures, each of at most 1000 halves).
-/
import Derived.Test.YtaeobegaodhpcaaGreatDoorZip
import Derived.Test.YtaeobegaodhpcaaGreatDoorQ28
set_option maxRecDepth 100000
set_option maxHeartbeats 8000000
namespace Go.Proofs.YtaeobegaodhpcaaGreatDoor
open Go.RowKit Go.Proofs.YtaeobegaodhpcaaGreatDoor.One
theorem MM {t:TypeId} {a:Act} {o:Oper} {w:World} {x y:Operand} {V:Array Value} (hg:Tryz.prog.eqGuardType Tryz.prog.depth t=false) (hq:(Op.equalIn 10000 t (.agg V) (.agg V)).run Tryz.prog w=.ok true w) (ho:o.op=.binOp .neq t x y t) (hx:a.eval x=.agg V) (hy:a.eval y=.agg V):(execOp a.eval o).run Tryz.prog w=.ok (Next.value (.bool false)) w:=by
 have heg:=run_eqGuard_agg (P:=Tryz.prog) w .neq t x y V V hg;unfold execOp;simp only[ho,hx,hy,Sem.run_bind,heg,Result.andThen_ok,binOp,Op.equal,Op.maxDepth,hq];rfl
theorem LT {h:Int} {r:List Int} (hr:H16 r):(Tryz.prog.info? 44).map (·.size)=some (pkL h r).length:=dS hr
theorem FV (t:ByteArray) (sp1:Option Addr) (n1 c1:Nat) (b:List UInt8) (sq1:Option Addr) (m d1:Nat) (l1:List Sg) (sp2:Option Addr) (n2 c2:Nat) (sq2:Option Addr) (m2 d2:Nat) (l2:List Sg) (w:World)
 (hp1:BSrc w w.heap.size sp1 n1 c1 b) (hp2:BSrc w w.heap.size sp2 n2 c2 b) (hl1:SgsIn w w.heap.size sq1 m d1 l1) (hl2:SgsIn w w.heap.size sq2 m2 d2 l2) (he:l1.map pg=l2.map pg) (hlt:∀ y ∈ l1.map pg,y.l.length≤1000∧y.q.length≤1000) (hm:m≤1000) :
 Calls Tryz.prog 11 #[.agg (enA t (.slice sp1 n1 c1) (.slice sq1 m d1)),.agg (enA t (.slice sp2 n2 c2) (.slice sq2 m2 d2))] w fun e w'=>e=.returned (.bool true)∧Below w.heap.size w w':=by
 obtain rfl:m=m2:=by rw[←hl1.len,←hl2.len];have:=congrArg List.length he;rwa [List.length_map,List.length_map] at this
 have HP1:=zh hp1;have HP2:=zh hp2;have HL1:=zh hl1;have HL2:=zh hl2;have HEQ:=zh he;have IH:=zh hlt;have HE:=zh (heap_alloc_new w (.cells (enA t (.slice sp1 n1 c1) (.slice sq1 m d1)) 25));clear hp1 hp2 hl1 hl2 he hlt
 go_enter Tryz.func11,Tryz.ntmps11
 go_upto_region 1 with fail
 generalize hwz:World.alloc w _=wz;generalize hw0:World.alloc wz _=w0;have HEz:Hid (Ah wz w.heap.size (enA t (.slice sp1 n1 c1) (.slice sq1 m d1)) 25):=by rw[←hwz];exact HE.out
 have HBz:Hid (Bw w wz):=by rw[←hwz];exact aA _ _
 have hsz:wz.heap.size=w.heap.size+1:=by rw[←hwz];simp
 have HF0:Hid (Ah w0 (w.heap.size+1) (enA t (.slice sp2 n2 c2) (.slice sq2 m d2)) 25):=by rw[←hw0,←hsz];exact heap_alloc_new _ _
 have CR:Hid (Bw wz w0):=by rw[←hw0];exact aA _ _
 have hs0:w0.heap.size=w.heap.size+2:=by rw[←hw0,World.size_alloc,hsz]
 have HE0:Hid (Ah w0 w.heap.size (enA t (.slice sp1 n1 c1) (.slice sq1 m d1)) 25):=(CR.out.block _ zo).trans HEz.out;have HB0:Hid (Bw w w0):=HBz.out.trans (CR.out.mono zo)
 try rw[hsz]
 clear hwz hw0 HE HEz HBz CR hsz;have q1:=cU (c2:=c1) ((HP1.out.below HB0.out zl));have q2:=cU (c2:=c2) ((HP2.out.below HB0.out zl));have k1:=IM HE0.out;have k2:=qU HE0.out;have k3:=iW HE0.out;have k4:=IM HF0.out;have k5:=qU HF0.out;have k6:=iW HF0.out
 go_upto_region 4 with fail
 clear q1 q2 k1 k2 k3 k4 k5 k6;obtain⟨BW,hBW⟩:∃ BW,BW=w0.heap.size:=⟨_,rfl⟩;have HBW:=zh hBW;obtain⟨g1,hg1⟩:∃ g1,g1=w.heap.size:=⟨_,rfl⟩;have HLW:Hid (w.heap.size≤BW∧w.heap.size<BW∧w.heap.size+1<BW):=⟨by omega,by omega,by omega⟩;clear hBW hs0
 go_loopw [5] (fun i wr=>∃ k:Nat,i=.int .i64 k∧k≤m∧Hid (Below BW w0 wr)) (fun i _=>m-(intOf i).toNat)
 case atStart=>exact⟨0,rfl,by omega,Below.refl _ _⟩
 case round =>
  obtain⟨k,rfl,hk2,HB⟩:=hrel;have HE1:=zh ((HB.out.block _ HLW.out.2.1).trans HE0.out);have HE2:=zh ((HB.out.block _ HLW.out.2.2).trans HF0.out);have c1':=iW HE1.out;by_cases hlt:k<m
  ·have hd:decide ((k:Int)<(m:Int))=true:=by simp;omega
   have hbs:=HB.out.size;have HBB:=zh (HB0.out.trans (HB.out.mono HLW.out.1));obtain⟨x,bb1,of1,hx,hok,hsd,e1,hlb1,hcp1,hrx⟩:=DE (HL1.out.below HBB.out zl) hlt;obtain⟨y,bb2,of2,hy,hoky,hsdy,e2,hlb2,hcp2,hry⟩:=DE (HL2.out.below HBB.out zl) hlt;subst e1 e2;have hxy:pg x=pg y:=by
    have h1:=DP hx;have h2:=DP hy;rw[HEQ.out,h2] at h1;injection h1 with h1;exact h1.symm
   have h1000:=IH.out (pg x) (List.mem_map.2 ⟨x,List.mem_of_getElem? hx,rfl⟩);have HRA0:=zh (pL hrx);have HSA0:=zh (yD hrx hok);have HRB0:=zh (pL hry);have HSB0:=zh (yD hry hoky);obtain⟨h,r,a,xs,xn,xc,xl,ys,yn,yc,yl⟩:=x;obtain⟨h',r',a',xs',xn',xc',xl',ys',yn',yc',yl'⟩:=y;have e1:h=h':=congrArg Pg.h hxy;have e2:r=r':=congrArg Pg.r hxy;have e3:a=a':=congrArg Pg.a hxy;have e4:xl=xl':=congrArg Pg.l hxy;have e5:yl=yl':=congrArg Pg.q hxy;subst e1 e2 e3 e4 e5;have hn1:xn=xn':=hsd.c.len.symm.trans hsdy.c.len;have hn2:yn=yn':=hsd.p.len.symm.trans hsdy.p.len;subst hn1 hn2;have HXN:Hid (xn≤1000∧yn≤1000):=⟨by rw[←show xl.length=xn from hsd.c.len];exact h1000.1,by rw[←show yl.length=yn from hsd.p.len];exact h1000.2⟩;have HRA:Hid (wr.rangeAt bb1 (of1+k*20) (pkL h r)):=HRA0.out;have HRB:Hid (wr.rangeAt bb2 (of2+k*20) (pkL h r)):=HRB0.out;have HSA:Hid (wr.rangeAt bb1 (of1+k*20+17) (siL a (.slice xs xn xc) (.slice ys yn yc))):=HSA0.out;have HSB:Hid (wr.rangeAt bb2 (of2+k*20+17) (siL a (.slice xs' xn xc') (.slice ys' yn yc'))):=HSB0.out;have iJ:Hid (H16 r):=hok;have HIP:=zh (LT (h:=h) iJ.out);have HSD:Hid (SgD wr w.heap.size ⟨h,r,a,xs,xn,xc,xl,ys,yn,yc,yl⟩):=hsd;have HSE:Hid (SgD wr w.heap.size ⟨h,r,a,xs',xn,xc',xl,ys',yn,yc',yl⟩):=hsdy;have HLT:Hid (w.heap.size<BW∧w.heap.size+1<BW∧bb1<BW∧bb2<BW):=⟨HLW.out.2.1,HLW.out.2.2,by have:=HLW.out.1;omega,by have:=HLW.out.1;omega⟩;have HCS:Hid (∀ w',Below BW wr w'→Calls Tryz.prog 28 #[.agg (siL a (.slice xs xn xc) (.slice ys yn yc)).toArray,.agg (siL a (.slice xs' xn xc') (.slice ys' yn yc')).toArray] w' fun e w''=>e=.returned (.bool true)∧Below w'.heap.size w' w''):=fun w' hb=>by
    have hbm:=hb.mono HLW.out.1;have hsz:w.heap.size≤w'.heap.size:=by have h1:=hb.size;have h2:=HB0.out.size;have h3:=HBW.out;omega
    exact KH a xs ys xs' ys' xn yn xc yc xc' yc' xl yl w' ((HSD.out.c.below hbm zl).more hsz) ((HSD.out.p.below hbm zl).more hsz) ((HSE.out.c.below hbm zl).more hsz) ((HSE.out.p.below hbm zl).more hsz) HXN.out.1 HXN.out.2
   have RR:Hid (Blks BW wr wr []):=Blks.start (Below.refl _ _) (by have h2:=HBW.out;omega);have p1:(0:Int)≤(k:Int):=by omega
   have p2:(k:Int)<(m:Int):=by omega
   clear hx hy hok hoky hsd hsdy hrx hry hxy h1000 HRA0 HRB0 HSA0 HSB0 hcp1 hcp2 hlb1 hlb2 hbs
   go_upto_region 6 with fail
   clear c1';refine wp_region_held_drew (S:=fun w'=>Below BW wr w') (by kernel_rfl) RR.out.b.drew (fun hHeld=>?_);refine zv 0 rfl ?_;refine zx 1 rfl (v:=?_) ?_ ?_;rotate_left
   ·intro w' hSw;have c2:=iW ((hSw.block _ HLT.out.1).trans HE1.out);go_simp;try with_reducible rfl
   refine zv 2 rfl ?_;refine zv 3 rfl ?_;refine zv 4 rfl ?_;refine' zk 5 rfl (v:=_) (yieldsIf_load_mid (by rfl) _ _ rfl _ _ rfl _ _ ?hS5n6 Tryz.underlying44 rfl HIP.out) ?rest5n6
   case hS5n6 =>
    intro w' hSw;exact aB HRA.out hSw HLT.out.2.2.1
   try simp only[Act.put,zu]
   refine zv 6 rfl ?_;refine zx 7 rfl (v:=?_) ?_ ?_;rotate_left
   ·intro w' hSw;have c2:=iW ((hSw.block _ HLT.out.2.1).trans HE2.out);go_simp;try with_reducible rfl
   refine zv 8 rfl ?_;refine zv 9 rfl ?_;refine zv 10 rfl ?_;refine' zk 11 rfl (v:=_) (yieldsIf_load_mid (by rfl) _ _ rfl _ _ rfl _ _ ?hS11n12 Tryz.underlying44 rfl HIP.out) ?rest11n12
   case hS11n12 =>
    intro w' hSw;exact aB HRB.out hSw HLT.out.2.2.2
   try simp only[Act.put,zu]
   refine zx 12 rfl (v:=?_) ?_ ?_;rotate_left
   ·intro w' hSw;refine MM (x:=.tmp 41) (y:=.tmp 47) (by kernel_rfl) (eqPk h r iJ.out w') ?_ ?_ ?_ <;> rfl
   refine zv 13 rfl ?_;refine zv 14 rfl ?_;refine zx 15 rfl (v:=?_) ?_ ?_;rotate_left
   ·intro w' hSw;have c2:=iW ((hSw.block _ HLT.out.1).trans HE1.out);go_simp;try with_reducible rfl
   refine zv 16 rfl ?_;refine zv 17 rfl ?_;refine zv 18 rfl ?_;refine' zk 19 rfl (v:=_) (yieldsIf_load_mid (by rfl) _ _ rfl _ _ rfl _ _ ?hS19n20 Tryz.underlying48 rfl (qS a (.slice xs xn xc) (.slice ys yn yc))) ?rest19n20
   case hS19n20 =>
    intro w' hSw;exact aB HSA.out hSw HLT.out.2.2.1
   try simp only[Act.put,zu]
   refine zv 20 rfl ?_;refine zx 21 rfl (v:=?_) ?_ ?_;rotate_left
   ·intro w' hSw;have c2:=iW ((hSw.block _ HLT.out.2.1).trans HE2.out);go_simp;try with_reducible rfl
   refine zv 22 rfl ?_;refine zv 23 rfl ?_;refine zv 24 rfl ?_;refine' zk 25 rfl (v:=_) (yieldsIf_load_mid (by rfl) _ _ rfl _ _ rfl _ _ ?hS25n26 Tryz.underlying48 rfl (qS a (.slice xs' xn xc') (.slice ys' yn yc'))) ?rest25n26
   case hS25n26 =>
    intro w' hSw;exact aB HSB.out hSw HLT.out.2.2.2
   try simp only[Act.put,zu]
   refine zr 26 rfl (fun K hK=>?_);go_simp
   with_reducible refine (HCS.out _ (RR.out.drew).b).mono ?_
   rintro e v1 ⟨rfl,hb⟩;have cA:=zh (RR.out.call ((Below.refl _ _).drew.trans hb));clear hb;go_wp2_with fail;refine hK.out _ _ cA.out.b fun _=>?_;clear hK K;refine zv 27 rfl ?_;refine zv 28 rfl ?_;refine zd ?_ _;go_wp2_with fail;go_roundw
   case rel=>exact⟨k+1,by go_num,by omega,HB.out.trans (show Below BW wr v1 from cA.out.b)⟩
   case measure=>simp[intOf];omega
  ·obtain rfl:k=m:=by omega
   have hd:decide ((k:Int)<(k:Int))=false:=by simp
   have HBf:=zh (HB0.out.trans (HB.out.mono HLW.out.1));go_wp2_with fail;go_ret;exact⟨rfl,HBf.out⟩
theorem AB {w:World} {base:Nat} {sp:Option Addr} {cap:Nat} {l:List UInt8} (h:w.ownsRow base 5 1 (.slice sp l.length cap) l.length (Lib.byteCells l)):BSrc w w.heap.size sp l.length cap l:=by
 obtain⟨_,⟨e,h0⟩ | ⟨g,c,cur,e,_,hg,hle,_,hsz,htk⟩⟩:=h
 ·exact⟨rfl,fun hn=>by omega⟩
 ·injection e with e1 e2 e3
  subst e1;subst e3;refine⟨rfl,fun _=>⟨g,0,rfl,(Array.getElem?_eq_some_iff.1 hg).1,hle,fun j hj=>?_⟩⟩;rw[cell_of_row w g (0+j) cur _ _ hg,Nat.zero_add];have h4:(cur.toList.take (l.length*1))[j]? = some (.int .u8 (l[j].toNat:Int)):=by rw[htk];simp[Lib.byteCells,hj]
  rw[List.getElem?_take,if_pos zo] at h4;simpa using h4
theorem fL {w w':World} {sp:Option Addr} {n cap:Nat} {l:List UInt8} (h:BSrc w w.heap.size sp n cap l) (hb:Below w.heap.size w w'):BSrc w' w'.heap.size sp n cap l:=(h.below hb zl).more hb.size
theorem VO {w1:World} {B:Nat} (hB:B=w1.heap.size) (t:ByteArray) (b:List UInt8) :
 LnsOwn ((w1.alloc (.cells #[.string mN,.string t,.string ⟨b.toArray⟩] 9)).alloc (.cells #[.slice (some ⟨w1.heap.size,0,none⟩) 3 3] 55)) B (.slice (some ⟨w1.heap.size+1,0,none⟩) 1 1) [⟨some ⟨w1.heap.size,0,none⟩,3,3,[mN,t,⟨b.toArray⟩]⟩] ∧
  Below B w1 ((w1.alloc (.cells #[.string mN,.string t,.string ⟨b.toArray⟩] 9)).alloc (.cells #[.slice (some ⟨w1.heap.size,0,none⟩) 3 3] 55)):=by
 subst hB;have h1:=heap_alloc_new w1 (.cells #[.string mN,.string t,.string ⟨b.toArray⟩] 9);have hb1:Below w1.heap.size w1 (w1.alloc (.cells #[.string mN,.string t,.string ⟨b.toArray⟩] 9)):=(Below.refl _ _).alloc zl _;have hs:(w1.alloc (.cells #[.string mN,.string t,.string ⟨b.toArray⟩] 9)).heap.size=w1.heap.size+1:=by simp
 generalize w1.alloc (.cells #[.string mN,.string t,.string ⟨b.toArray⟩] 9)=w2 at *;have h2:=heap_alloc_new w2 (.cells #[.slice (some ⟨w1.heap.size,0,none⟩) 3 3] 55);have hb2:Below w2.heap.size w2 (w2.alloc (.cells #[.slice (some ⟨w1.heap.size,0,none⟩) 3 3] 55)):=(Below.refl _ _).alloc zl _;rw[←hs];exact⟨DQ ((hb2.block _ zo).trans h1) zl h2 zo,hb1.trans (hb2.mono hb1.size)⟩
theorem yH (t:ByteArray) (sp:Option Addr) (n cap:Nat) (b:List UInt8) (sq:Option Addr) (m cq:Nat) (l:List Sg) (w:World) (ht:t.size≤maxLen) (hp:BSrc w w.heap.size sp n cap b) (hl:SgsIn w w.heap.size sq m cq l) :
 Calls Tryz.prog 8 #[.agg (enA t (.slice sp n cap) (.slice sq m cq))] w (EncE (WF t b (l.map pg)) w):=by
 have HP:=zh hp;have HL:=zh hl;have HE:=zh (heap_alloc_new w (.cells (enA t (.slice sp n cap) (.slice sq m cq)) 25));clear hp hl
 go_enter Tryz.func8,Tryz.ntmps8
 go_upto_region 1 with fail
 generalize hw0:World.alloc w _=w0;have HE0:Hid (Ah w0 w.heap.size (enA t (.slice sp n cap) (.slice sq m cq)) 25):=by rw[←hw0];exact HE.out
 have HB0:Hid (Bw w w0):=by rw[←hw0];exact (Below.refl _ _).alloc zl _
 have hs0:w0.heap.size=w.heap.size+1:=by rw[←hw0];simp
 clear hw0 HE;have HP0:=zh ((HP.out.below HB0.out zl).more (show w.heap.size≤w0.heap.size by omega));have HL0:=zh (HL.out.up HB0.out zl);have HCV:=zh (mB t sp n cap b sq m cq l w0 ht HP0.out HL0.out);have HIE:=zh (aE t (.slice sp n cap) (.slice sq m cq))
 go_wp2_with (refine wpList_load_row rfl 25 _ rfl w.heap.size rfl 25 _ (0,0) _ HE0.out Tryz.underlying25 rfl HIE.out ?_)
 refine HCV.out.mono ?_;rintro e w1 ⟨rfl,hb⟩;have HB1:=zh hb;clear hb HCV;have hs1:=HB1.out.size;have uO:Hid (Bw w w1):=HB0.out.trans (HB1.out.mono zo)
 cases hv:fM t b (l.map pg)
 ·have HEQ:=zh (MS hv);clear hv;go_wp2_with fail;go_ret2;exact⟨.slice none 0 0,by rw[HEQ.out];rfl,by rw[HEQ.out];exact World.ownsRow_nil _ _ _ _,uO.out⟩
 have HEQ:=zh (EG hv);have HVA:=zh (AP hv);clear hv;have h8:m≤8:=by have:=HVA.out.2.2.1;rw[List.length_map,HL.out.len] at this;exact this
 have HE1:Hid (Ah w1 w.heap.size (enA t (.slice sp n cap) (.slice sq m cq)) 25):=(HB1.out.block _ zo).trans HE0.out;have c1:=IM HE1.out;have c2:=qU HE1.out;obtain⟨B,hBe⟩:∃ B,B=w1.heap.size:=⟨_,rfl⟩;have hcv:=cU (c2:=cap) ((HP0.out.below HB1.out zl).more hs1);have HTWO:=zh (VO hBe t b)
 go_upto_region 4 with fail
 generalize hw3:World.alloc (World.alloc w1 _) _=w3;have XO:Hid (LnsOwn w3 B (.slice (some ⟨w1.heap.size+1,0,none⟩) 1 1) [⟨some ⟨w1.heap.size,0,none⟩,3,3,[mN,t,⟨b.toArray⟩]⟩]):=by rw[←hw3];exact HTWO.out.1
 have TT:Hid (Below B w1 w3):=by rw[←hw3];exact HTWO.out.2
 clear hw3;have hBW:w.heap.size+1≤B:=by omega
 have HE3:Hid (Ah w3 w.heap.size (enA t (.slice sp n cap) (.slice sq m cq)) 25):=(TT.out.block _ zo).trans HE1.out;have HKB:Hid (B≤w1.heap.size):=Nat.le_of_eq hBe;obtain⟨g1,hg1⟩:∃ g1,g1=w1.heap.size:=⟨_,rfl⟩;rw[←hg1] at XO;rw[←hg1];clear hg1 hBe HTWO HB1 HE1 HE0 HP0 HL0 HB0 c1 c2 hcv
 go_upto_region 5 with fail
 go_loopw [4,5] (fun v i wr=>∃ (k:Nat) (sp1:Option Addr) (cap1:Nat) (ls:List Ln),k≤m∧v=.slice sp1 (1+k) cap1∧i=.int .i64 k∧Hid (LnsOwn wr B (.slice sp1 (1+k) cap1) ls∧ls.length=1+k∧aD ls=[[mN,t,⟨b.toArray⟩]]++((l.map pg).take k).map iE)∧Hid (Below B w1 wr)) (fun _ i _=>m-(intOf i).toNat)
 case atStart=>exact⟨0,_,_,_,Nat.zero_le _,rfl,rfl,⟨XO.out,rfl,rfl⟩,TT.out⟩
 case round =>
  have HEW:Hid (∀ w',Below B w1 w'→w'.heap[w.heap.size]? = some (.cells (enA t (.slice sp n cap) (.slice sq m cq)) 25 (0,0))):=fun w' hb=>(hb.block _ zo).trans (((TT.out.block _ zo).symm).trans HE3.out);clear XO TT HE3;obtain⟨k,sp1,cap1,ls,hk,rfl,rfl,HLS,HBR⟩:=hrel;have hszr:B≤wr.heap.size:=by have:=HBR.out.size;have:=HKB.out;omega
  have EZ:Hid (Bw w wr):=uO.out.trans (HBR.out.mono zo);have c3:=iW (HEW.out _ HBR.out);by_cases hlt:k<m
  ·have hd:decide ((k:Int)<(m:Int))=true:=by simp;omega
   obtain⟨bq,off,rfl,hbB,hcap,hr⟩:=HL.out.cells zo;have hkl:k<l.length:=by rw[HL.out.len];exact hlt
   obtain⟨x,hx⟩:∃ x,l[k]? = some x:=⟨l[k],List.getElem?_eq_getElem hkl⟩;have hxm:x ∈ l:=List.mem_of_getElem? hx;have HR:=zh (aB (hr k x hx) EZ.out hbB);have HOX:=zh (HL.out.ok x hxm);have HI:=zh (gG HOX.out);have HDX:=zh (HL.out.dat x hxm);have HSX:=zh (ShG.of HDX.out HOX.out (HVA.out.2.2.2 (pg x) (List.mem_map.2 ⟨x,hxm,rfl⟩)));have HTK:=zh (show ((l.map pg).take (k+1)).map iE=((l.map pg).take k).map iE++[iE (pg x)] by rw[List.take_add_one,List.getElem?_map,hx,List.map_append];rfl);have p1:(0:Int)≤(k:Int):=by omega
   have p2:(k:Int)<(m:Int):=by omega
   have p3:(m:Int)≤(cq:Int):=by omega
   have HZG:=zh (heap_alloc_new wr (.cells zG.toArray 50));clear hr hx hxm hkl hbB
   go_upto_region 8 with (first
    | (refine wpList_load_mid rfl 50 _ rfl bq (off+k*20) rfl _ _ HR.out Tryz.underlying50 rfl HI.out ?_)
    | (refine wpList_store_row rfl 50 _ _ rfl wr.heap.size _ rfl rfl 50 _ HZG.out (aS HOX.out) (bR HOX.out) (bG x) ?_;rw[aK];generalize hw1':World.alloc wr _=wx;have TM:Hid (GB wx wr.heap.size x):=(by rw[←hw1'];exact GB.new wr x);have HBX:Hid (Bw wr wx):=(by rw[←hw1'];exact (Below.refl _ _).alloc zl _);clear hw1'))
   clear HZG HR HI c3;obtain⟨gX,hgX⟩:∃ gX,gX=wr.heap.size:=⟨_,rfl⟩;have HGX:Hid (GB wx gX x):=by rw[hgX];exact TM.out
   rw[←hgX];have TR:Hid (Bw w wx):=EZ.out.trans (HBX.out.mono zo);have hsx:=HBX.out.size;obtain⟨BX,hBX⟩:∃ BX,BX=wx.heap.size:=⟨_,rfl⟩;have HSwx:Hid (Blks BX wx wx []):=Blks.start (Below.refl _ _) (Nat.le_of_eq hBX);have HLX:Hid (gX<BX):=by rw[hBX];exact (Array.getElem?_eq_some_iff.1 HGX.out).1
   have HLSX:=zh (HLS.out.1.below HBX.out);have HBRX:Hid (Below B w1 wx):=HBR.out.trans (HBX.out.mono hszr);have HLE:=zh HLS.out.2.1;have HWL:=zh HLS.out.2.2;have hBBX:B≤BX:=by omega
   have HBXE:=zh hBX;clear hgX hBX TM HLS HBR HBX;have HCN:Hid (∀ w',Below BX wx w'→Calls Tryz.prog 20 #[.int .i64 x.h] w' fun e w''=>e=.returned (.string (mE x.h))∧Below w'.heap.size w' w''):=fun w' hb=>mX x.h HSX.out.h.1 HSX.out.h.2 w';have HCF:Hid (∀ w',Below BX wx w'→Calls Tryz.prog 21 #[.agg (x.r.map (Value.int .u8)).toArray] w' fun e w''=>e=.returned (.string (iV x.r))∧Below w'.heap.size w' w''):=fun w' hb=>eY x.r w' HOX.out.1 HOX.out.2;refine wp_region_held_drew (S:=fun w'=>Below BX wx w') (by kernel_rfl) HSwx.out.b.drew (fun hHeld=>?_);refine zv 0 rfl ?_;refine zv 1 rfl ?_;refine zx 2 rfl (v:=?_) ?_ ?_;rotate_left
   ·intro w' hSw;have k1:=gb_h (HGX.out.below hSw HLX.out);go_simp;try with_reducible rfl
   refine zv 4 rfl ?_;refine zv 5 rfl ?_;refine' zk 6 rfl (v:=_) (yieldsIf_load_mid (by rfl) _ _ rfl _ _ rfl _ _ ?hS6n6 Tryz.underlying42 rfl (LS HOX.out)) ?rest6n6
   case hS6n6 =>
    intro w' hSw;exact gb_r (HGX.out.below hSw HLX.out)
   try simp only[Act.put,zu]
   refine zr 3 rfl (fun K hK=>?_);go_simp
   with_reducible refine (HCN.out _ (HSwx.out.drew).b).mono ?_
   rintro e v1 ⟨rfl,hb⟩;have cA:=zh (HSwx.out.call ((Below.refl _ _).drew.trans hb));clear hb;go_wp2_with fail;refine hK.out _ _ cA.out.b fun _=>?_;clear hK K;refine zr 7 rfl (fun K hK=>?_);go_simp
   with_reducible refine (HCF.out _ (cA.out).b).mono ?_
   rintro e v2 ⟨rfl,hb⟩;have bJ:=zh (cA.out.call hb);clear hb;go_wp2_with fail;refine hK.out _ _ bJ.out.b fun _=>?_;clear hK K;refine zr 8 rfl (fun K hK=>?_)
   first | (rw[if_pos (by rfl)];refine pE 55 3 [(0,.const (.string ⟨#[115,105,103,110,97,116,117,114,101]⟩)),(1,.tmp 33),(2,.tmp 37)] rfl [(0,.string jB),(1,.string (mE x.h)),(2,.string (iV x.r))] rfl _ _ (JN _ _ _) ?_) | skip
   obtain⟨gR,v3,hg,hw,dN,HEv3⟩:=bJ.out.allocd (.cells ([jB,mE x.h,iV x.r].map Value.string).toArray 9 (0,0));go_simp
   try rw[hg]
   generalize hq:World.alloc v2 _=q;obtain rfl:v3=q:=hw.symm.trans hq;clear hg hw hq;refine hK.out _ _ dN.out.b fun _=>?_;clear hK K;refine zv 9 rfl ?_;refine zd ?_ _;have HG4:=zh (HGX.out.below dN.out.b HLX.out);have HR4:=zh (dN.out.at 0 rfl);have hgr:=(dN.out.lt 0 rfl).1;have YB:Hid (Below wx.heap.size wx v3):=by rw[←HBXE.out];exact dN.out.b
   have hk4:BX≤v3.heap.size:=by rw[HBXE.out];exact YB.out.size
   have HLS4:=zh (HLSX.out.below YB.out);have xE:Hid (Bw w v3):=TR.out.trans (YB.out.mono (by have:=TR.out.size;omega));have HBR4:Hid (Below B w1 v3):=HBRX.out.trans (YB.out.mono (by have:=HBXE.out;omega));have HSS:=zh (HG4.out.s HOX.out);have HIS:=zh (oS x);have HD4:=zh (HDX.out.up xE.out zl);have HCW:=zh (FN x.a x.sp x.n x.c x.l x.sq x.m x.d x.q v3 HSX.out.a.1 HSX.out.a.2 HD4.out.c HD4.out.p (by have:=HSX.out.n;omega) (by have:=HSX.out.m;omega));clear HSwx HCN HCF HBRX HGX TR dN;generalize v3=wy at *
   go_wp2_with (refine wpList_load_mid rfl 48 _ rfl gX 17 rfl _ _ HSS.out Tryz.underlying48 rfl HIS.out ?_)
   refine HCW.out.mono ?_;rintro e w5 ⟨spw,capw,rfl,how,hbw⟩;have HOW:=zh (OwnW.strs how (by unfold lP;simp[HD4.out.c.len,HD4.out.p.len];omega));have HR5:Hid (w5.heap[gR]? = some (.cells ([jB,mE x.h,iV x.r].map Value.string).toArray 9 (0,0))):=(hbw.block _ (Array.getElem?_eq_some_iff.1 HR4.out).1).trans HR4.out;have hk5:BX≤w5.heap.size:=Nat.le_trans hk4 hbw.size;have HBX5:=zh (YB.out.trans (hbw.mono YB.out.size));have HBR5:Hid (Below B w1 w5):=HBR4.out.trans (hbw.mono zo);have hn68:=HSX.out.n;have hm68:=HSX.out.m;have hgB:B≤gR:=by omega
   have hsx6:wx.heap.size≤gR:=by rw[←HBXE.out];exact hgr
   have hsx5:wx.heap.size≤w5.heap.size:=HBX5.out.size;clear how hbw HR4 HG4 xE HSS HCW HD4 HLS4 HBR4 YB
   have HAP:=zh (fun (o:Oper) (a:Act) (K:Act→World→Prop) (Q:Exit→Act→World→Prop) (s x1:Operand) (ho:o.op=.call { callee:=.builtin .append,args:=#[s,x1],argTypes:=#[55,55] }) (hs:a.eval s=.slice (some ⟨gR,0,none⟩) 3 3) (hx:a.eval x1=.slice spw (1+x.n+x.m) capw)
    (h:∀ sp cap w',Hid (LnOwnL w' B ⟨sp,3+(1+x.n+x.m),cap,iE (pg x)⟩∧LnsOwn w' B (.slice sp1 (1+k) cap1) ls∧Below B w1 w'∧B≤w'.heap.size)→K (a.put o.dst (.slice sp (3+(1+x.n+x.m)) cap)) w')=>lO (Q:=Q) s x1 ho B gR [jB,mE x.h,iV x.r] 3 rfl (by decide) hs HR5.out hgB zo _ spw (1+x.n+x.m) capw (lP x.a x.l x.q) hx HOW.out zo (fun sp cap w' h1 h2 =>
     h sp cap w' ⟨h1.out,HLSX.out.below (HBX5.out.grown h2.out hsx5 (fun k e=>by injection e with e;omega)),HBR5.out.grown h2.out zo (fun k e=>by injection e with e;omega),by have:=h2.out.size;omega⟩))
   clear HR5 HOW
   go_wp2_with (first
    | (refine wpList_plain rfl fun _ hK=>HAP.out _ _ _ _ _ _ rfl rfl rfl (fun sp6 cap6 w6 H6=>hK _ _ ?_);have HLQ:=zh (LnB.new H6.out.2.1 H6.out.1 H6.out.2.2.2))
    | (refine wpList_plain rfl fun _ hK=>mO _ _ rfl B _ ls (1+k) HLE.out.symm rfl HLQ.out.o w6.heap.size ⟨sp6,3+(1+x.n+x.m),cap6,iE (pg x)⟩ rfl HLQ.out.c HLQ.out.y zo HLQ.out.k (fun sp' cap' w7 HL7 HBB HGR=>hK _ _ ?_)))
   have HWE:Hid (aD (ls++[(⟨sp6,3+(1+x.n+x.m),cap6,iE (pg x)⟩:Ln)])=[[mN,t,⟨b.toArray⟩]]++((l.map pg).take (k+1)).map iE):=by
    show _=_;rw[pF,HWL.out,HTK.out,List.append_assoc];rfl
   have HLL:Hid ((ls++[(⟨sp6,3+(1+x.n+x.m),cap6,iE (pg x)⟩:Ln)]).length=1+(k+1)):=by show _=_;rw[List.length_append,HLE.out];rfl
   have HBR7:Hid (Below B w1 w7):=H6.out.2.2.1.trans ((HLQ.out.b.mono H6.out.2.2.2).trans HBB.out);clear HLQ HBB HGR HAP H6 HLSX;go_roundw
   case rel=>exact⟨k+1,sp',cap',_,by omega,rfl,by go_num,⟨HL7.out,HLL.out,HWE.out⟩,HBR7.out⟩
   case measure=>simp[intOf];omega
  ·obtain rfl:k=m:=by omega
   have hd:decide ((k:Int)<(k:Int))=false:=by simp
   have HWE:Hid (aD ls=pN t b (l.map pg)):=by
    show _=_;rw[HLS.out.2.2,List.take_of_length_le (by rw[List.length_map,HL.out.len];exact Nat.le_refl _)];rfl
   have HLI:=zh (HLS.out.1.lines HLS.out.2.1);have HEA:=zh (fun q hq=>LnOwnL.le (HLS.out.1.each q hq));have hk8:1+k≤9223372036854775807:=by omega
   clear HLS HBR;go_wp2_with fail;refine (jE _ _ _ _ wr HLI.out hk8 HEA.out).mono ?_;rintro e w9 ⟨v,rfl,hown,hb⟩;rw[HWE.out] at hown ⊢;have HO:Hid (w9.ownsRow w.heap.size 5 1 v (enc (pN t b (l.map pg))).2.length (Lib.byteCells (enc (pN t b (l.map pg))).2)):=nB hown.out EZ.out.size;have HB9:=zh (EZ.out.trans (hb.mono EZ.out.size));clear hown hb;go_wp2_with fail;go_ret2;exact⟨v,by rw[HEQ.out];rfl,by rw[HEQ.out];exact HO,HB9.out⟩
theorem PK (sp:Option Addr) (n cap:Nat) (l:List ByteArray) (w:World) (hl:StrsIn w w.heap.size sp n l) (hcap:n≤cap) (hn:n≤1000000) (hmx:∀ s ∈ l,s.size≤9223372036854775807) :
 Calls Tryz.prog 27 #[.slice sp n cap] w (RsL l w):=by
 have HL:=zh hl;have HMX:=zh hmx;have hlen:=hl.len;clear hl hmx;have HZ:=zh (heap_alloc_new w (.cells zG.toArray 50));have HB:=zh (aA w (.cells zG.toArray 50));have HS:=zh (aF w (.cells zG.toArray 50))
 go_enter Tryz.func27,Tryz.ntmps27
 go_upto_region 1 with (fail)
 generalize hw0:World.alloc w _=w0;have HZ0:Hid (Ah w0 w.heap.size zG.toArray 50):=by rw[←hw0];exact HZ.out
 have HB0:Hid (Bw w w0):=by rw[←hw0];exact HB.out
 have hs0:w.heap.size+1≤w0.heap.size:=by rw[←hw0];exact Nat.le_of_eq HS.out.symm
 clear hw0 HZ HB HS;by_cases h1:n<3
 ·have q1:decide ((n:Int)<3)=true:=by simp;omega
  have hbi:=fN
  go_wp2_with (refine wpList_store_row rfl 50 _ _ rfl w.heap.size (aX zSg).toArray rfl rfl 50 _ HZ0.out (aS bW) (bR bW) (bG zSg) ?_)
  exact bodyPost_ret (aC (P:=Tryz.prog) rfl _ _ w.heap.size 50 _ (0,0) _ rfl (setRow_heap _ _ _ _ _ _ HZ0.out) Tryz.underlying50 rfl (aS bW)) rfl (RsL.no (xZ zo) rfl (below_setRow HB0.out zl _))
 have q1:decide ((n:Int)<3)=false:=by simp;omega
 have HRK:=zh (@SP l zo);have HRH:=zh (@DF l);obtain⟨wb,wo,rfl,hwb,hcw⟩:=HL.out.cells zo;have p0:(0:Int)<(n:Int):=by omega
 have p1:(1:Int)<(n:Int):=by omega
 have p2:(2:Int)<(n:Int):=by omega
 have HC:Hid (∀ w',Below w.heap.size w w'→∀ k,k<3→w'.cell? ⟨wb,wo+k,none⟩=some (.string (wdN l k))):=fun w' hb k hk=>by
  rw[←FE (show k<l.length by omega)];exact (hb.cell (p:=⟨wb,wo+k,none⟩) hwb).trans (hcw k zo)
 have HM1:Hid ((wdN l 1).size≤9223372036854775807):=by
  show _≤_;rw[←FE (show 1<l.length by omega)];exact HMX.out _ (List.getElem_mem _)
 have HM3:Hid ((hdB (l.drop 3)).size≤9223372036854775807):=by
  show _≤_;unfold hdB;rw[List.getD_eq_getElem?_getD]
  cases hd:(l.drop 3)[0]? with
  | none=>exact Nat.zero_le _
  | some s=>exact HMX.out s (List.mem_of_mem_drop (List.mem_of_getElem? hd))
 have HSD:Hid (StrsIn w w.heap.size (slZ (some ⟨wb,wo,none⟩) 3 1 cap) (n-3) (l.drop 3)):=HL.out.from zo hcap
 have HPH:Hid (rsP l=⟨pnv (wdN l 1).data.toList,hpB (wdN l 2),rdA (l.drop 3),rdC (l.drop 3),rdP (l.drop 3)⟩):=rfl;have c0:w0.cell? ⟨wb,wo,none⟩=some (.string (wdN l 0)):=HC.out w0 HB0.out 0 zo;have hcp:n-3≤cap-3:=by omega
 have hn3:n-3≤1000000:=by omega
 clear hcw HMX hlen;by_cases hsw:wdN l 0=jB
 case neg =>
  have hk:=HRH.out hsw;have HKF:=zh hk;have hs:=mt (uZ (wdN l 0)).2 hsw;have e1:((wdN l 0).toList == [115,105,103,110,97,116,117,114,101])=false:=by rw[beq_eq_false_iff_ne];exact hs
  have e2:decide ((wdN l 0).toList=[115,105,103,110,97,116,117,114,101])=false:=decide_eq_false hs;clear hsw hk HRK HRH HPH HSD HM1 HM3;generalize wdN l 0=s0 at *;have hbi:=fN
  go_wp2_with (refine wpList_store_row rfl 50 _ _ rfl w.heap.size (aX zSg).toArray rfl rfl 50 _ HZ0.out (aS bW) (bR bW) (bG zSg) ?_)
  exact bodyPost_ret (aC (P:=Tryz.prog) rfl _ _ w.heap.size 50 _ (0,0) _ rfl (setRow_heap _ _ _ _ _ _ HZ0.out) Tryz.underlying50 rfl (aS bW)) rfl (RsL.no HKF.out rfl (below_setRow HB0.out zl _))
 have RT:=zh (HRK.out hsw);have hs:=(uZ (wdN l 0)).1 hsw;have e1:((wdN l 0).toList == [115,105,103,110,97,116,117,114,101])=true:=by rw[hs];rfl
 have e2:decide ((wdN l 0).toList=[115,105,103,110,97,116,117,114,101])=true:=decide_eq_true hs;clear hsw HRK HRH;have HCN:=zh (gU (wdN l 1) w0);have c1:=HC.out w0 HB0.out 1 zo;go_wp2_with fail;clear c0 c1 e1 e2 hs;refine HCN.out.mono ?_;rintro e w' ⟨rfl,rfl⟩;clear HCN HM1;have HCH:=zh (jY (wdN l 2) w0);have cQ:Hid (H16 (hpB (wdN l 2))):=vI _;have HHP:Hid (hpK (wdN l 2)=pok (wdN l 2).data.toList 16):=rfl;have HHB:Hid (hpB (wdN l 2)=pby (wdN l 2).data.toList 16):=rfl;have c2:=HC.out w0 HB0.out 2 zo;generalize pnk (wdN l 1).data.toList=K1 at *;generalize pnv (wdN l 1).data.toList=V1 at *;rw[←HHP.out,←HHB.out] at HCH;generalize hpK (wdN l 2)=K2 at *;generalize hpB (wdN l 2)=R2 at *;go_wp2_with fail;clear c2;refine HCH.out.mono ?_;rintro e w1 ⟨rfl,hb⟩;have HB1:=zh hb;clear hb HCH HHP HHB;have hs1:=HB1.out.size;have HZN:=zh (Zro.new w1);have HRB:=zh (RowB.new w1 42 R2)
 go_upto_region 5 with (refine wpList_store_row rfl 42 _ _ rfl w1.heap.size (hvA R2) rfl rfl 42 _ HZN.out.z (aI cQ.out) (cE cQ.out) (cM _) ?_;rw[aK];generalize hw9:World.alloc w1 _=w2;have HR2:Hid (RowB w1 42 R2 w2):=(by rw[←hw9];exact HRB.out);clear hw9 HZN HRB)
 have hs2:w1.heap.size+1≤w2.heap.size:=Nat.le_of_eq HR2.out.s.symm;have uN:Hid (Bw w w2):=HB0.out.trans ((HB1.out.mono zo).trans (HR2.out.b.mono zo));have HZ2:Hid (Ah w2 w.heap.size zG.toArray 50):=(HR2.out.b.block _ zo).trans ((HB1.out.block _ zo).trans HZ0.out);have HX2:=zh (HR2.out.r);obtain⟨gh,hgh⟩:∃ gh,gh=w1.heap.size:=⟨_,rfl⟩;rw[←hgh] at HX2 hs2;rw[←hgh];have hgw:w.heap.size<gh:=by omega
 clear hgh HR2 HB1 HZ0 hs1 HB0;have hsl:=rJ (t:=55) Tryz.underlying55 DW w2 (some ⟨wb,wo,none⟩) n cap 3 zo;rw[show ((3:Nat):Int)=3 from rfl] at hsl;have HCR:=zh (KI (slZ (some ⟨wb,wo,none⟩) 3 1 cap) (n-3) (cap-3) (l.drop 3) w2 ((HSD.out.below uN.out zl).more zo) hcp hn3);go_wp2_with fail;clear hsl;refine HCR.out.mono ?_;rintro e w3 ⟨sp1,c1,sp2,c2,rfl,ho1,ho2,hb⟩;have HB3:=zh hb;have HO1:=zh ho1;have HO2:=zh ho2;clear hb ho1 ho2 HCR HSD HC;generalize rdA (l.drop 3)=A3 at *;generalize rdC (l.drop 3)=C3 at *;generalize rdP (l.drop 3)=P3 at *;generalize rdK (l.drop 3)=K3 at *;have hs3:=HB3.out.size;have HZS:=zh (heap_alloc_new w3 (.cells (siA 0 aH aH) 48))
 go_upto_region 6 with (refine wpList_store_row rfl 48 _ _ rfl w3.heap.size (siA A3 (.slice sp1 C3.length c1) (.slice sp2 P3.length c2)) rfl rfl 48 _ HZS.out (aL _ _ _) rfl (cO _ _ _ _ _ _ _) ?_;rw[aK];generalize hw9:World.alloc w3 _=w4;have HS4:Hid (Ah w4 w3.heap.size (siA A3 (.slice sp1 C3.length c1) (.slice sp2 P3.length c2)) 48):=(by rw[←hw9];exact heap_alloc_new _ _);have HB4:Hid (Bw w3 w4):=(by rw[←hw9];exact aA _ _);clear hw9 HZS)
 have hs4:=HB4.out.size;have xE:Hid (Bw w w4):=uN.out.trans ((HB3.out.mono zo).trans (HB4.out.mono zo));have HZ4:Hid (Ah w4 w.heap.size zG.toArray 50):=(HB4.out.block _ zo).trans ((HB3.out.block _ zo).trans HZ2.out);have HX4:Hid (Ah w4 gh (hvA R2) 42):=(HB4.out.block _ zo).trans ((HB3.out.block _ zo).trans HX2.out);have XM:=zh (HO1.out.below HB4.out);have XL:=zh (HO2.out.below HB4.out);generalize w3.heap.size=gs at *;have hw2:w.heap.size≤w2.heap.size:=uN.out.size;clear HB4 HB3 HX2 HZ2 uN HO1 HO2;by_cases hq:K1=true∧V1≤6∧K2=true∧K3=true
 ·obtain⟨rfl,h6,rfl,rfl⟩:=hq;have HRT:Hid (rsK l=true):=by show _=_;rw[RT.out,decide_eq_true h6];rfl
  have d6:decide (V1>6)=false:=by simpa using h6
  clear RT;obtain⟨X,hX⟩:∃ X:Sg,X=⟨V1,R2,A3,sp1,C3.length,c1,C3,sp2,P3.length,c2,P3⟩:=⟨_,rfl⟩;have HOK:Hid (OkG X):=by rw[hX];exact cQ.out
  have HBG:Hid (∀ w',(Instr.build 50 #[(0,.agg (pkA V1 R2)),(1,.agg (siA A3 (.slice sp1 C3.length c1) (.slice sp2 P3.length c2)))]).run Tryz.prog w'=.ok (.agg (aX X).toArray) w'):=by
   show ∀ _,_;intro w';rw[hX];exact ER ⟨V1,R2,A3,sp1,C3.length,c1,C3,sp2,P3.length,c2,P3⟩ cQ.out w'
  have HXT:Hid (SgT (w4.setRow w.heap.size (aX X).toArray) w.heap.size X):=by
   have h1:=OwnHv.setRow (base:=w.heap.size) (XM.out.base hw2) HZ4.out (by decide) (aX X).toArray;have h2:=OwnHv.setRow (base:=w.heap.size) (XL.out.base hw2) HZ4.out (by decide) (aX X).toArray;generalize w4.setRow w.heap.size (aX X).toArray=wz at *;rw[hX];exact⟨cQ.out,h1,h2,rfl,rfl⟩
  have HXP:Hid (pg X=rsP l):=by show _=_;rw[hX];exact HPH.out.symm
  clear hX XM XL
  go_wp2_with (first
   | (refine wpList_load_row rfl 42 _ rfl gh rfl 42 _ (0,0) _ HX4.out Tryz.underlying42 rfl (aI cQ.out) ?_)
   | (refine wpList_load_row rfl 48 _ rfl gs rfl 48 _ (0,0) _ HS4.out Tryz.underlying48 rfl (aL _ _ _) ?_)
   | (refine bB rfl 44 [(0,.tmp 55),(1,.tmp 56)] rfl [(0,.int .i64 V1),(1,.agg (hvA R2))] rfl _ (wH V1 R2 cQ.out _) ?_)
   | (refine bB rfl 50 [(0,.tmp 57),(1,.tmp 58)] rfl [(0,.agg (pkA V1 R2)),(1,.agg (siA A3 (.slice sp1 C3.length c1) (.slice sp2 P3.length c2)))] rfl _ (HBG.out _) ?_)
   | (refine wpList_store_row rfl 50 _ _ rfl w.heap.size (aX X).toArray rfl (by kernel_rfl) 50 _ HZ4.out (aS HOK.out) (bR HOK.out) (bG X) ?_))
  refine bodyPost_ret (aC (P:=Tryz.prog) rfl _ _ w.heap.size 50 _ (0,0) _ rfl (setRow_heap _ _ _ _ _ _ HZ4.out) Tryz.underlying50 rfl (aS HOK.out)) rfl ⟨X,by rw[HRT.out];rfl,HXT.out,fun _=>HXP.out,below_setRow xE.out zl _⟩
 ·have HRT:Hid (rsK l=false):=by
   show _=_;rw[RT.out]
   cases K1 <;> cases K2 <;> cases K3 <;> simp at hq ⊢
   omega
  clear RT HPH XM XL HS4 HX4
  cases K1
  ·clear hq;have hbi:=fN
   go_wp2_with (refine wpList_store_row rfl 50 _ _ rfl w.heap.size (aX zSg).toArray rfl rfl 50 _ HZ4.out (aS bW) (bR bW) (bG zSg) ?_)
   exact bodyPost_ret (aC (P:=Tryz.prog) rfl _ _ w.heap.size 50 _ (0,0) _ rfl (setRow_heap _ _ _ _ _ _ HZ4.out) Tryz.underlying50 rfl (aS bW)) rfl (RsL.no HRT.out rfl (below_setRow xE.out zl _))
  by_cases h6:V1≤6
  case neg =>
   have d6:decide (V1>6)=true:=by simpa using h6
   clear hq h6;have hbi:=fN
   go_wp2_with (refine wpList_store_row rfl 50 _ _ rfl w.heap.size (aX zSg).toArray rfl rfl 50 _ HZ4.out (aS bW) (bR bW) (bG zSg) ?_)
   exact bodyPost_ret (aC (P:=Tryz.prog) rfl _ _ w.heap.size 50 _ (0,0) _ rfl (setRow_heap _ _ _ _ _ _ HZ4.out) Tryz.underlying50 rfl (aS bW)) rfl (RsL.no HRT.out rfl (below_setRow xE.out zl _))
  have d6:decide (V1>6)=false:=by simpa using h6
  cases K2
  ·clear hq h6;have hbi:=fN
   go_wp2_with (refine wpList_store_row rfl 50 _ _ rfl w.heap.size (aX zSg).toArray rfl rfl 50 _ HZ4.out (aS bW) (bR bW) (bG zSg) ?_)
   exact bodyPost_ret (aC (P:=Tryz.prog) rfl _ _ w.heap.size 50 _ (0,0) _ rfl (setRow_heap _ _ _ _ _ _ HZ4.out) Tryz.underlying50 rfl (aS bW)) rfl (RsL.no HRT.out rfl (below_setRow xE.out zl _))
  cases K3
  ·clear hq h6;have hbi:=fN
   go_wp2_with (refine wpList_store_row rfl 50 _ _ rfl w.heap.size (aX zSg).toArray rfl rfl 50 _ HZ4.out (aS bW) (bR bW) (bG zSg) ?_)
   exact bodyPost_ret (aC (P:=Tryz.prog) rfl _ _ w.heap.size 50 _ (0,0) _ rfl (setRow_heap _ _ _ _ _ _ HZ4.out) Tryz.underlying50 rfl (aS bW)) rfl (RsL.no HRT.out rfl (below_setRow xE.out zl _))
  exact absurd ⟨rfl,h6,rfl,rfl⟩ hq
end Go.Proofs.YtaeobegaodhpcaaGreatDoor
