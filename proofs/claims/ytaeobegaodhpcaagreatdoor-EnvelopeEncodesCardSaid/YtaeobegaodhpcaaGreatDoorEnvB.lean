/-
  Envelopes: the walks of bytes.Compare, of the reference's Less, and of compareKeys (condition: the table of constants reads as it is laid).
-/
import Derived.Test.YtaeobegaodhpcaaGreatDoorZip
import Derived.Test.YtaeobegaodhpcaaGreatDoorQ14
import Derived.Deep.DeepCutAuto
import Derived.Deep.RegionWith
set_option maxRecDepth 100000
set_option maxHeartbeats 8000000
namespace Go.Proofs.YtaeobegaodhpcaaGreatDoor
open Go.RowKit Go.Proofs.YtaeobegaodhpcaaGreatDoor.One
theorem AD (b1 o1 n1 c1:Nat) (xs:List Int) (b2 o2 n2 c2:Nat) (ys:List Int) (hx:xs.length=n1) (hy:ys.length=n2) (w:World)
 (h1:∀ i,i<n1→w.cell? ⟨b1,o1+i,none⟩=some (.int .u8 (xs.getD i 0))) (h2:∀ i,i<n2→w.cell? ⟨b2,o2+i,none⟩=some (.int .u8 (ys.getD i 0))) :
 Calls Tryz.prog 107 #[.slice (some ⟨b1,o1,none⟩) n1 c1,.slice (some ⟨b2,o2,none⟩) n2 c2] w fun e w'=>e=.returned (.int .i64 (Lib.compareBytes (Lib.bytesOf xs) (Lib.bytesOf ys)))∧w=w':=by
 have HR:=zh (rK (P:=Tryz.prog) b1 o1 n1 c1 xs b2 o2 n2 c2 ys hx hy h1 h2)
 go_enter Tryz.func107,Tryz.ntmps107
 go_wp2
 rw[run_callFunc_extern Tryz.func138 (by kernel_rfl) (by kernel_rfl) (by kernel_rfl) (e:=Extern.BytealgCompare.compare) (by kernel_rfl),HR.out];simp only[Result.andThen];rw[Oper.upon_value]
 go_wp2
 go_ret;exact⟨rfl,rfl⟩
def IN (a b:List Int):Int:=Lib.compareBytes (Lib.bytesOf a) (Lib.bytesOf b)
theorem WL {a b:List Int} (ha:D32 a) (hb:D32 b):decide (IN a b ≥ 0) = !dls a b:=GX a b (fun x hx=>ha.2 x hx) (fun x hx=>hb.2 x hx)
theorem DR (a b:List Int) (w:World) (ha:D32 a) (hb:D32 b) :
 Calls Tryz.prog 46 #[.agg (dv a),.agg (dv b)] w fun e w'=>e=.returned (.bool (dls a b))∧Below w.heap.size w w':=by
 have HLA:=zh ha;have HLB:=zh hb;obtain⟨w0,hw0⟩:∃ w0,(w.alloc (.cells (dv a) 77)).alloc (.cells (dv b) 77)=w0:=⟨_,rfl⟩;have HB0:=zh (show Below w.heap.size w w0 by rw[←hw0];exact ((Below.refl _ _).alloc zl _).alloc (by simp) _);have HCB:=zh (show ∀ i x,b[i]? = some x→w0.cell? ⟨w.heap.size+1,i,none⟩=some (.int .u8 x) by
  rw[←hw0];intro i x hx;have h1:=heap_alloc_new (w.alloc (.cells (dv a) 77)) (.cells (dv b) 77);rw[World.size_alloc] at h1;rw[cell_of_row _ _ i _ _ _ h1];simp[dv,hx])
 have HCA:=zh (show ∀ i x,a[i]? = some x→w0.cell? ⟨w.heap.size,i,none⟩=some (.int .u8 x) by
  rw[←hw0];intro i x hx;have h1:=heap_alloc_new w (.cells (dv a) 77);rw[←Below.heap_alloc (w.alloc (.cells (dv a) 77)) (.cells (dv b) 77) w.heap.size (by simp)] at h1;rw[cell_of_row _ _ i _ _ _ h1];simp[dv,hx])
 have HS0:=zh (show w.heap.size+1<w0.heap.size by rw[←hw0];simp);clear ha hb
 go_enter Tryz.func46,Tryz.ntmps46
 go_wp2_with fail;have hw0':=hw0;unfold dv at hw0'
 first | rw[hw0] | rw[hw0'] | skip
 have HBB:=zh (show w.heap.size<w0.heap.size∧w.heap.size+1<w0.heap.size from ⟨by have:=HS0.out;omega,HS0.out⟩);clear hw0 hw0'
 go_loopw [5] (fun i wr=>∃ k:Nat,k≤32∧i=.int .i64 k∧Hid (dls a b=dls (a.drop k) (b.drop k)∧Below w0.heap.size w0 wr)) (fun i _=>32-(intOf i).toNat)
 case atStart=>exact⟨0,by omega,rfl,rfl,Below.refl _ _⟩
 case round =>
  obtain⟨k,hk,rfl,H⟩:=hrel;have HE:=zh H.out.1;have HBE:=zh H.out.2;clear H;by_cases hlt:k<32
  ·have hd:decide ((k:Int)<32)=true:=by simp;omega
   have p1:(0:Int)≤(k:Int):=by omega
   have p2:(k:Int)<32:=by omega
   obtain⟨x,hx⟩:∃ x,a[k]? = some x:=⟨a[k]'(by have:=HLA.out.1;omega),List.getElem?_eq_getElem _⟩;obtain⟨y,hy⟩:∃ y,b[k]? = some y:=⟨b[k]'(by have:=HLB.out.1;omega),List.getElem?_eq_getElem _⟩;have x1:∀ q,(wr.drewN q).cell? ⟨w.heap.size,k,none⟩=some (.int .u8 x):=fun q=>(HBE.out.cell (p:=⟨w.heap.size,k,none⟩) HBB.out.1).trans (HCA.out k x hx);have y1:∀ q,(wr.drewN q).cell? ⟨w.heap.size+1,k,none⟩=some (.int .u8 y):=fun q=>(HBE.out.cell (p:=⟨w.heap.size+1,k,none⟩) HBB.out.2).trans (HCB.out k y hy);have x0:wr.cell? ⟨w.heap.size,k,none⟩=some (.int .u8 x):=x1 0;have y0:wr.cell? ⟨w.heap.size+1,k,none⟩=some (.int .u8 y):=y1 0;have HST:=zh (RA HE.out hx hy);have HW:Hid (∀ q,Below w0.heap.size w0 (wr.drewN q)):=fun q=>HBE.out.trans (⟨rfl,rfl,rfl,Nat.le_refl _,fun _ _=>rfl⟩);clear hx hy;by_cases he:x=y
   ·subst he;have h1:(!(x == x))=false:=by simp
    have HN:=zh (HST.out.1 rfl);go_wp2_with fail
    go_quiet (fail)
    go_wp2_with fail;go_roundw
    case rel=>exact⟨k+1,by omega,by go_num,HN.out,HW.out _⟩
    case measure=>simp[intOf];omega
   ·have h1:(!(x == y))=true:=by simp;exact he
    have h2:(x == y)=false:=by simp;exact he
    have HN:=zh (HST.out.2 he);go_wp2_with fail
    go_quiet (fail)
    have HW2:=zh (HW.out nq);have x3:=x1 nq;have y3:=y1 nq;have x2:∀ q,((wr.drewN nq).drewN q).cell? ⟨w.heap.size,k,none⟩=some (.int .u8 x):=fun q=>x1 0;have y2:∀ q,((wr.drewN nq).drewN q).cell? ⟨w.heap.size+1,k,none⟩=some (.int .u8 y):=fun q=>y1 0;clear x1 y1 x0 y0;generalize World.drewN wr nq=wq at *;have HW3:Hid (∀ q,Below w0.heap.size w0 (wq.drewN q)):=fun q=>HW2.out.trans (⟨rfl,rfl,rfl,Nat.le_refl _,fun _ _=>rfl⟩);go_wp2_with fail
    go_quiet (fail)
    go_wp2_with fail;go_ret;exact⟨by rw[HN.out];rfl,HB0.out.trans ((HW3.out _).mono HB0.out.size)⟩
  ·obtain rfl:k=32:=by omega
   have hd:decide (((32:Nat):Int)<32)=false:=by simp
   have HN:=zh (show dls a b=false by
    rw[HE.out,List.drop_of_length_le (by rw[HLA.out.1];exact Nat.le_refl _),List.drop_of_length_le (by rw[HLB.out.1];exact Nat.le_refl _)];rfl)
   go_wp2_with fail;go_ret;exact⟨by rw[HN.out];rfl,HB0.out.trans (HBE.out.mono HB0.out.size)⟩
def idP (p:Pg):List Int:=aP (sha (idB p.h p.r)).list
theorem iU (p:Pg):D32 (idP p):=⟨by simp[idP,aO,St.list_length],fun x hx=>lJ _ x hx⟩
theorem NE {w:World} {g:Nat} {x:List Int} {t:TypeId} (h:w.heap[g]? = some (.cells (x.map (Value.int .u8)).toArray t (0,0))) (i:Nat) (hi:i<x.length):w.cell? ⟨g,0+i,none⟩=some (.int .u8 (x.getD i 0)):=by
 rw[Nat.zero_add,cell_of_row w g i _ _ _ h];simp[List.getD_eq_getElem?_getD,List.getElem?_eq_getElem hi]
structure GgB (w:World) (x y:Sg) (w0:World):Prop where
 x:GB w0 w.heap.size x
 y:GB w0 (w.heap.size+1) y
 b:Below w.heap.size w w0
 k:w0.heap.size=w.heap.size+2
theorem GgB.new (w:World) (x y:Sg):GgB w x y ((w.alloc (.cells (aX x).toArray 50)).alloc (.cells (aX y).toArray 50)) :=
 ⟨(heap_alloc_old _ _ (by simp)).trans (heap_alloc_new w _),by have h:=GB.new (w.alloc (.cells (aX x).toArray 50)) y;rw[World.size_alloc] at h;exact h,((Below.refl _ _).alloc zl _).alloc (by simp) _,by simp⟩
theorem gL (x y:Sg) (w:World) (hx:OkG x) (hy:OkG y) (hk:KayIn w) (hk0:4<w.heap.size) :
 Calls Tryz.prog 68 #[.agg (aX x).toArray,.agg (aX y).toArray] w fun e w'=>e=.returned (.int .i64 (IN (idP (pg x)) (idP (pg y))))∧Below w.heap.size w w':=by
 have HIX:=zh (iG hx);have HIY:=zh (iG hy);have HT:=zh (GgB.new w x y);have HK:=zh hk;have HRX:=zh hx;have HRY:=zh hy;clear hk hx hy;obtain⟨A,hA⟩:∃ A,idB x.h x.r=A:=⟨_,rfl⟩;obtain⟨C,hC⟩:∃ C,idB y.h y.r=C:=⟨_,rfl⟩;rw[show idP (pg x)=aP (sha A).list by rw[←hA];rfl,show idP (pg y)=aP (sha C).list by rw[←hC];rfl];have HA:=zh hA;have HC:=zh hC;clear hA hC
 go_enter Tryz.func68,Tryz.ntmps68
 go_upto_region 1 with (fail)
 generalize hw0:World.alloc (World.alloc w _) _=w0;have HT0:Hid (GgB w x y w0):=by rw[←hw0];exact HT.out
 clear hw0 HT;have hs0:=HT0.out.k;obtain⟨B,hBe⟩:∃ B,B=w0.heap.size:=⟨_,rfl⟩;have qK:Hid (Blks B w0 w0 []):=Blks.start (Below.refl _ _) (Nat.le_of_eq hBe);have hBe2:B=w.heap.size+2:=by omega
 have HLT:Hid (w.heap.size<B∧w.heap.size+1<B):=⟨by omega,by omega⟩;have HX0:=zh HT0.out.x.p;have HY0:=zh HT0.out.y.p;have HCX:Hid (∀ w',Below B w0 w'→Calls Tryz.prog 64 #[.agg (sgP x).toArray] w' fun e w''=>e=.returned (.agg (dg A))∧Below w'.heap.size w' w''):=fun w' hb=>by rw[←HA.out];exact MB x.h x.r w' HRX.out (HK.out.below (HT0.out.b.trans (hb.mono zo)) hk0) (by have:=hb.size;omega)
 have HCY:Hid (∀ w',Below B w0 w'→Calls Tryz.prog 64 #[.agg (sgP y).toArray] w' fun e w''=>e=.returned (.agg (dg C))∧Below w'.heap.size w' w''):=fun w' hb=>by rw[←HC.out];exact MB y.h y.r w' HRY.out (HK.out.below (HT0.out.b.trans (hb.mono zo)) hk0) (by have:=hb.size;omega)
 clear hBe hBe2 hs0
 go_cut [5,6] (fun s5 s6 wx=>∃ ga gb:Nat,s5=.pointer (some ⟨ga,0,none⟩)∧s6=.pointer (some ⟨gb,0,none⟩)∧Hid (wx.heap[ga]? = some (.cells (dg A) 77 (0,0))∧wx.heap[gb]? = some (.cells (dg C) 77 (0,0))∧Below B w0 wx))
 case first =>
  as_aux_lemma =>
   exact zT (p:=∀ (ga:Nat) (gb:Nat) (w:World),_→wpAnyH Tryz.prog _ _ _ _ _ _ _ w) (fun T0=>by
    exact zT (p:=∀ (ga:Nat) (w:World),_→wpAnyH Tryz.prog _ _ _ _ _ _ _ w) (fun T1=>by
     exact zT (p:=∀ (gb:Nat) (w:World),_→wpAnyH Tryz.prog _ _ _ _ _ _ _ w) (fun T2=>by
      exact zT (p:=∀ (ga:Nat) (gb:Nat) (w:World),_→wpAnyH Tryz.prog _ _ _ _ _ _ _ w) (fun T3=>by
       exact zT (p:=∀ (ga:Nat) (w:World),_→wpAnyH Tryz.prog _ _ _ _ _ _ _ w) (fun T4=>by
        exact zT (p:=∀ (gb:Nat) (w:World),_→wpAnyH Tryz.prog _ _ _ _ _ _ _ w) (fun T5=>by
         exact zT (p:=∀ (ga:Nat) (gb:Nat) (w:World),_→wpAnyH Tryz.prog _ _ _ _ _ _ _ w) (fun T6=>by
          refine wp_region_held_drew (S:=fun w'=>Below B w0 w') (by kernel_rfl) qK.out.b.drew (fun hHeld=>?_);refine zv 0 rfl ?_;refine' zk 1 rfl (v:=_) (yieldsIf_load_mid (by rfl) _ _ rfl _ _ rfl _ _ ?hS1n2 Tryz.underlying44 rfl HIX.out) ?rest1n2
          case hS1n2 =>
           intro w' hSw;exact aB HX0.out hSw HLT.out.1
          try simp only[Act.put,zu]
          refine zv 3 rfl ?_;refine' zk 4 rfl (v:=_) (yieldsIf_load_mid (by rfl) _ _ rfl _ _ rfl _ _ ?hS4n4 Tryz.underlying44 rfl HIY.out) ?rest4n4
          case hS4n4 =>
           intro w' hSw;exact aB HY0.out hSw HLT.out.2
          try simp only[Act.put,zu]
          refine wpAnyH_ready (rs:=[2,6,7]) (by kernel_rfl) (by simp) (AllReadyH.cons (o:=_) rfl (fun K hK=>?_) (AllReadyH.cons (o:=_) rfl (fun K hK=>?_) (AllReadyH.cons (o:=_) rfl (fun K hK=>?_) AllReadyH.nil)))
          ·go_simp
           with_reducible refine (HCX.out _ (qK.out.drew).b).mono ?_
           rintro e v1 ⟨rfl,hb⟩;have cA:=zh (qK.out.call ((Below.refl _ _).drew.trans hb));clear hb;go_wp2_with fail;refine hK.out _ _ cA.out.b fun _=>?_;clear hK K;refine wpAnyH_ready (rs:=[5,6,7]) (by kernel_rfl) (by simp) (AllReadyH.cons (o:=_) rfl (fun K hK=>?_) (AllReadyH.cons (o:=_) rfl (fun K hK=>?_) (AllReadyH.cons (o:=_) rfl (fun K hK=>?_) AllReadyH.nil)))
           ·go_simp
            with_reducible refine (HCY.out _ (cA.out).b).mono ?_
            rintro e v2 ⟨rfl,hb⟩;have bJ:=zh (cA.out.call hb);clear hb;go_wp2_with fail;refine hK.out _ _ bJ.out.b fun _=>?_;clear hK K;refine zs 6 7 rfl (fun K hK=>?_) rfl (fun K hK=>?_)
            ·obtain⟨ga,v3,hg,hw,dN,HEv3⟩:=bJ.out.allocd (.cells (Array.replicate 32 (Value.int .u8 0)) 77 (0,0));go_simp
             try rw[hg]
             generalize hq:World.alloc v2 _=q;obtain rfl:v3=q:=hw.symm.trans hq;clear hg hw hq;refine hK.out _ _ dN.out.b fun _=>?_;clear hK K
             try simp only[Act.put,zu]
             exact T1 ga v3 (zh (dN.out))
            ·obtain⟨gb,v3,hg,hw,dN,HEv3⟩:=bJ.out.allocd (.cells (Array.replicate 32 (Value.int .u8 0)) 77 (0,0));go_simp
             try rw[hg]
             generalize hq:World.alloc v2 _=q;obtain rfl:v3=q:=hw.symm.trans hq;clear hg hw hq;refine hK.out _ _ dN.out.b fun _=>?_;clear hK K
             try simp only[Act.put,zu]
             exact T2 gb v3 (zh (dN.out))
           ·obtain⟨ga,v2,hg,hw,bJ,hU⟩:=cA.out.allocd (.cells (Array.replicate 32 (Value.int .u8 0)) 77 (0,0));go_simp
            try rw[hg]
            generalize hq:World.alloc v1 _=q;obtain rfl:v2=q:=hw.symm.trans hq;clear hg hw hq;refine hK.out _ _ bJ.out.b fun _=>?_;clear hK K
            try simp only[Act.put,zu]
            exact T4 ga v2 (zh (bJ.out))
           ·obtain⟨gb,v2,hg,hw,bJ,hU⟩:=cA.out.allocd (.cells (Array.replicate 32 (Value.int .u8 0)) 77 (0,0));go_simp
            try rw[hg]
            generalize hq:World.alloc v1 _=q;obtain rfl:v2=q:=hw.symm.trans hq;clear hg hw hq;refine hK.out _ _ bJ.out.b fun _=>?_;clear hK K
            try simp only[Act.put,zu]
            exact T5 gb v2 (zh (bJ.out))
          ·obtain⟨ga,v1,hg,hw,cA,qB⟩:=qK.out.allocdD (.cells (Array.replicate 32 (Value.int .u8 0)) 77 (0,0));go_simp
           try rw[hg]
           generalize hq:World.drew (World.alloc w0 _)=q;obtain rfl:v1=q:=hw.symm.trans hq;clear hg hw hq;refine hK.out _ _ cA.out.b fun _=>?_;clear hK K;refine zs 2 7 rfl (fun K hK=>?_) rfl (fun K hK=>?_)
           ·go_simp
            with_reducible refine (HCX.out _ (cA.out).b).mono ?_
            rintro e v2 ⟨rfl,hb⟩;have bJ:=zh (cA.out.call hb);clear hb;go_wp2_with fail;refine hK.out _ _ bJ.out.b fun _=>?_;clear hK K
            try simp only[Act.put,zu]
            exact T4 ga v2 (zh (bJ.out))
           ·obtain⟨gb,v2,hg,hw,bJ,hU⟩:=cA.out.allocd (.cells (Array.replicate 32 (Value.int .u8 0)) 77 (0,0));go_simp
            try rw[hg]
            generalize hq:World.alloc v1 _=q;obtain rfl:v2=q:=hw.symm.trans hq;clear hg hw hq;refine hK.out _ _ bJ.out.b fun _=>?_;clear hK K
            try simp only[Act.put,zu]
            exact T6 ga gb v2 (zh (bJ.out.p2))
          ·obtain⟨gb,v1,hg,hw,cA,qB⟩:=qK.out.allocdD (.cells (Array.replicate 32 (Value.int .u8 0)) 77 (0,0));go_simp
           try rw[hg]
           generalize hq:World.drew (World.alloc w0 _)=q;obtain rfl:v1=q:=hw.symm.trans hq;clear hg hw hq;refine hK.out _ _ cA.out.b fun _=>?_;clear hK K;refine zs 2 6 rfl (fun K hK=>?_) rfl (fun K hK=>?_)
           ·go_simp
            with_reducible refine (HCX.out _ (cA.out).b).mono ?_
            rintro e v2 ⟨rfl,hb⟩;have bJ:=zh (cA.out.call hb);clear hb;go_wp2_with fail;refine hK.out _ _ bJ.out.b fun _=>?_;clear hK K
            try simp only[Act.put,zu]
            exact T5 gb v2 (zh (bJ.out))
           ·obtain⟨ga,v2,hg,hw,bJ,hU⟩:=cA.out.allocd (.cells (Array.replicate 32 (Value.int .u8 0)) 77 (0,0));go_simp
            try rw[hg]
            generalize hq:World.alloc v1 _=q;obtain rfl:v2=q:=hw.symm.trans hq;clear hg hw hq;refine hK.out _ _ bJ.out.b fun _=>?_;clear hK K
            try simp only[Act.put,zu]
            exact T6 ga gb v2 (zh (bJ.out))) (by
          intro ga gb u6 HSu6;refine zr 2 rfl (fun K hK=>?_);go_simp
          with_reducible refine (HCX.out _ (HSu6.out).b).mono ?_
          rintro e v1601 ⟨rfl,hb⟩;have kV:=zh (HSu6.out.call hb);clear hb;go_wp2_with fail;refine hK.out _ _ kV.out.b fun _=>?_;clear hK K
          try simp only[Act.put,zu]
          exact T3 ga gb v1601 (zh (kV.out)))) (by
         intro gb u5 HSu5;refine zs 5 6 rfl (fun K hK=>?_) rfl (fun K hK=>?_)
         ·go_simp
          with_reducible refine (HCY.out _ (HSu5.out).b).mono ?_
          rintro e v1501 ⟨rfl,hb⟩;have dX:=zh (HSu5.out.call hb);clear hb;go_wp2_with fail;refine hK.out _ _ dX.out.b fun _=>?_;clear hK K
          try simp only[Act.put,zu]
          exact T2 gb v1501 (zh (dX.out))
         ·obtain⟨ga,v1501,hg,hw,dX,HEv1501⟩:=HSu5.out.allocd (.cells (Array.replicate 32 (Value.int .u8 0)) 77 (0,0));go_simp
          try rw[hg]
          generalize hq:World.alloc u5 _=q;obtain rfl:v1501=q:=hw.symm.trans hq;clear hg hw hq;refine hK.out _ _ dX.out.b fun _=>?_;clear hK K
          try simp only[Act.put,zu]
          exact T3 ga gb v1501 (zh (dX.out)))) (by
        intro ga u4 HSu4;refine zs 5 7 rfl (fun K hK=>?_) rfl (fun K hK=>?_)
        ·go_simp
         with_reducible refine (HCY.out _ (HSu4.out).b).mono ?_
         rintro e v1401 ⟨rfl,hb⟩;have dY:=zh (HSu4.out.call hb);clear hb;go_wp2_with fail;refine hK.out _ _ dY.out.b fun _=>?_;clear hK K
         try simp only[Act.put,zu]
         exact T1 ga v1401 (zh (dY.out))
        ·obtain⟨gb,v1401,hg,hw,dY,HEv1401⟩:=HSu4.out.allocd (.cells (Array.replicate 32 (Value.int .u8 0)) 77 (0,0));go_simp
         try rw[hg]
         generalize hq:World.alloc u4 _=q;obtain rfl:v1401=q:=hw.symm.trans hq;clear hg hw hq;refine hK.out _ _ dY.out.b fun _=>?_;clear hK K
         try simp only[Act.put,zu]
         exact T3 ga gb v1401 (zh (dY.out.p2)))) (by
       intro ga gb u3 HSu3;refine zr 5 rfl (fun K hK=>?_);go_simp
       with_reducible refine (HCY.out _ (HSu3.out).b).mono ?_
       rintro e v1301 ⟨rfl,hb⟩;have gM:=zh (HSu3.out.call hb);clear hb;go_wp2_with fail;refine hK.out _ _ gM.out.b fun _=>?_;clear hK K
       try simp only[Act.put,zu]
       exact T0 ga gb v1301 (zh (gM.out)))) (by
      intro gb u2 HSu2;refine zr 6 rfl (fun K hK=>?_);obtain⟨ga,v1201,hg,hw,HSv1201,HEv1201⟩:=HSu2.out.allocd (.cells (Array.replicate 32 (Value.int .u8 0)) 77 (0,0));go_simp
      try rw[hg]
      generalize hq:World.alloc u2 _=q;obtain rfl:v1201=q:=hw.symm.trans hq;clear hg hw hq;refine hK.out _ _ HSv1201.out.b fun _=>?_;clear hK K
      try simp only[Act.put,zu]
      exact T0 ga gb v1201 (zh (HSv1201.out)))) (by
     intro ga u1 HSu1;refine zr 7 rfl (fun K hK=>?_);obtain⟨gb,v1101,hg,hw,HSv1101,HEv1101⟩:=HSu1.out.allocd (.cells (Array.replicate 32 (Value.int .u8 0)) 77 (0,0));go_simp
     try rw[hg]
     generalize hq:World.alloc u1 _=q;obtain rfl:v1101=q:=hw.symm.trans hq;clear hg hw hq;refine hK.out _ _ HSv1101.out.b fun _=>?_;clear hK K
     try simp only[Act.put,zu]
     exact T0 ga gb v1101 (zh (HSv1101.out.p2)))) (by
    intro ga gb u0 HSu0;refine zr 8 rfl (fun K hK=>?_);rw[if_pos (by rfl)];refine wp_store_row 77 _ _ rfl ga (dg A) rfl rfl 77 _ (HSu0.out.at 0 rfl) (iH _) (by rw[kP];rfl) (nT _) ?_;generalize hw:World.setRow u0 _ _=v1001;have cJ:=zh (HSu0.out.set 0 rfl (dg A));rw[hw] at cJ;clear hw;refine hK.out _ _ cJ.out.b fun _=>?_;clear hK K;refine zr 9 rfl (fun K hK=>?_);rw[if_pos (by rfl)];refine wp_store_row 77 _ _ rfl gb (dg C) rfl rfl 77 _ (cJ.out.at 1 rfl) (iH _) (by rw[kP];rfl) (nT _) ?_;generalize hw:World.setRow v1001 _ _=v1002;have bY:=zh (cJ.out.set 1 rfl (dg C));rw[hw] at bY;clear hw;refine hK.out _ _ bY.out.b fun _=>?_;clear hK K;refine zd ?_ _;go_wp2_with fail;go_meet;exact⟨ga,gb,rfl,rfl,bY.out.at 0 rfl,bY.out.at 1 rfl,bY.out.b⟩)
 case rest =>
 obtain⟨ga,gb,rfl,rfl,HC1⟩:=hcut;have HBC:Hid (∀ c1 c2,Calls Tryz.prog 107 #[.slice (some ⟨ga,0,none⟩) 32 c1,.slice (some ⟨gb,0,none⟩) 32 c2] (World.drew wc) fun e w''=>e=.returned (.int .i64 (IN (aP (sha A).list) (aP (sha C).list)))∧World.drew wc=w''):=fun c1 c2=>AD ga 0 32 c1 _ gb 0 32 c2 _ (by simp[aO,St.list_length]) (by simp[aO,St.list_length]) _ (fun i hi=>NE (t:=77) HC1.out.1 i (by simp[aO,St.list_length];exact hi)) (fun i hi=>NE (t:=77) HC1.out.2.1 i (by simp[aO,St.list_length];exact hi));have HB:=zh (HT0.out.b.trans (HC1.out.2.2.mono (Nat.le_of_lt HLT.out.1)));clear HC1 HX0 HY0 HCX HCY HT0;go_wp2_with fail
 go_region_with (go_at_call 107;(with_reducible refine (HBC.out _ _).mono ?_);rintro e w' ⟨rfl,rfl⟩)
 all_goals
  go_wp2_with fail;go_ret;exact⟨rfl,HB.out.drew⟩
end Go.Proofs.YtaeobegaodhpcaaGreatDoor
