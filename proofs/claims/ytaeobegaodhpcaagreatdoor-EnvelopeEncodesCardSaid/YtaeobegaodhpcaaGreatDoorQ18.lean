/-
  Envelopes: the walks of validSignatures and Valid (conditions: at most 1000000 signatures; the table of constants reads as it is laid).
-/
import Derived.Test.YtaeobegaodhpcaaGreatDoorZip
import Derived.Test.YtaeobegaodhpcaaGreatDoorEnvB
import Derived.Test.YtaeobegaodhpcaaGreatDoorQ17
set_option maxRecDepth 100000
set_option maxHeartbeats 8000000
namespace Go.Proofs.YtaeobegaodhpcaaGreatDoor
open Go.RowKit Go.Proofs.YtaeobegaodhpcaaGreatDoor.One
structure EnvIn (w:World) (B:Nat) (p s:Value) (b:List UInt8) (l:List Sg):Prop where
 pay:∃ sp n cap,p=.slice sp n cap∧BSrc w B sp n cap b∧(sp=none→cap=0)
 sgs:∃ sp n cap,s=.slice sp n cap∧SgsIn w B sp n cap l∧(sp=none→cap=0)
def tL (p:Pg):Bool:=mA p.h p.a p.l.length p.q.length
theorem JS {w:World} {B:Nat} {x:Sg} (h:SgD w B x):mA x.h x.a x.n x.m=tL (pg x):=by
 unfold tL pg;rw[show x.n=x.l.length from h.c.len.symm,show x.m=x.q.length from h.p.len.symm]
def tF (L:List Pg) (i:Nat):Bool:=match L[i]? with
 | some x => tL x && (match i with
   | 0=>true
   | j + 1 => match L[j]? with
     | some y=>dls (idP y) (idP x)
     | none=>true)
 | none=>true
def vsB (L:List Pg):Bool:=(List.range L.length).all (tF L)
theorem OO {L:List Pg} {i:Nat} (hi:i<L.length) (h:tF L i=false):vsB L=false:=by
 unfold vsB;rw[List.all_eq_false];exact⟨i,List.mem_range.2 hi,by rw[h];simp⟩
theorem IX {L:List Pg} {n:Nat} (hn:L.length=n) (h:∀ j,j<n→tF L j=true):vsB L=true:=by
 unfold vsB;rw[List.all_eq_true];exact fun i hi=>h i (by have:=List.mem_range.1 hi;omega)
theorem xK {l:List Sg} {x:Sg} (hx:l[0]? = some x):tF (l.map pg) 0=tL (pg x):=by
 unfold tF;rw[List.getElem?_map,hx];simp
theorem xL {l:List Sg} {k:Nat} {x y:Sg} (hx:l[k+1]? = some x) (hy:l[k]? = some y):tF (l.map pg) (k+1)=(tL (pg x) && dls (idP (pg y)) (idP (pg x))):=by
 unfold tF;rw[List.getElem?_map,hx];simp only[Option.map_some,List.getElem?_map,hy]
theorem CT {l:List Sg} {k:Nat} {x:Sg} (hx:l[k]? = some x) (h:tL (pg x)=false):tF (l.map pg) k=false:=by
 unfold tF;rw[List.getElem?_map,hx];simp[h]
theorem uU (sp:Option Addr) (n cap:Nat) (l:List Sg) (w:World) (hl:SgsIn w w.heap.size sp n cap l) (hn:n≤1000000) (hk:KayIn w) (hk0:4<w.heap.size) :
 Calls Tryz.prog 32 #[.slice sp n cap] w fun e w'=>e=.returned (.bool (vsB (l.map pg)))∧Below w.heap.size w w':=by
 have HL:=zh hl;have HK:=zh hk;clear hl hk
 go_enter Tryz.func32,Tryz.ntmps32
 go_wp2_with fail
 go_loopw [7] (fun i wr=>∃ k:Nat,k≤n∧i=.int .i64 k∧Hid (∀ j,j<k→tF (l.map pg) j=true)∧Hid (Below w.heap.size w wr)) (fun i _=>n-(intOf i).toNat)
 case atStart=>exact⟨0,Nat.zero_le _,rfl,fun j hj=>absurd hj (Nat.not_lt_zero _),Below.refl _ _⟩
 case round =>
  obtain⟨k,hk,rfl,HA,hbe⟩:=hrel;by_cases hlt:k<n
  ·have hd:decide ((k:Int)<(n:Int))=true:=by simp;omega
   obtain⟨b,off,rfl,hbB,hcap,hr⟩:=HL.out.cells zo;have hkl:k<l.length:=by rw[HL.out.len];exact hlt
   obtain⟨x,hx⟩:∃ x,l[k]? = some x:=⟨l[k],List.getElem?_eq_getElem hkl⟩;have hxm:x ∈ l:=List.mem_of_getElem? hx;have HR:=zh (aB (hr k x hx) hbe.out hbB);have HOX:=zh (HL.out.ok x hxm);have HI:=zh (gG HOX.out);have HIP:=zh (iG HOX.out);have HIS:=zh (oS x);have HX:=zh hx;have HRR:=zh hr;have XQ:=zh hbB;have HSQ:=zh (JS (HL.out.dat x hxm));have p1:(0:Int)≤(k:Int):=by omega
   have p2:(k:Int)<(n:Int):=by omega
   have p3:(n:Int)≤(cap:Int):=by omega
   have HZG:=zh (heap_alloc_new wr (.cells zG.toArray 50));clear hr hx hxm hkl hbB
   go_upto_region 4 with (first
    | (refine wpList_load_mid rfl 50 _ rfl b (off + k * 20) rfl _ _ HR.out Tryz.underlying50 rfl HI.out ?_)
      | (refine wpList_store_row rfl 50 _ _ rfl wr.heap.size _ rfl rfl 50 _ HZG.out (aS HOX.out) (bR HOX.out) (bG x) ?_;rw[aK];generalize hw1:World.alloc wr _=w1;have HG1:Hid (GB w1 wr.heap.size x):=(by rw[←hw1];exact GB.new wr x);have HB1:Hid (Below wr.heap.size wr w1):=(by rw[←hw1];exact (Below.refl _ _).alloc zl _);have hs1:w1.heap.size=wr.heap.size+1:=(by rw[←hw1];simp);clear hw1))
   obtain⟨B,hBe⟩:∃ B,B=w1.heap.size:=⟨_,rfl⟩;have HSB:Hid (Below B w1 w1):=Below.refl _ _;have HLT:Hid (wr.heap.size<B):=by show _<_;omega
   have HLB:Hid (b<B):=by show _<_;have:=XQ.out;have:=hbe.out.size;omega
   have HBW:Hid (Bw w w1):=hbe.out.trans (HB1.out.mono hbe.out.size);have hwB:w.heap.size≤B:=by have:=hbe.out.size;omega
   clear HZG;obtain⟨c,hc⟩:∃ c,tL (pg x)=c:=⟨_,rfl⟩;have HCS:Hid (∀ w',Calls Tryz.prog 67 #[.agg (sgP x).toArray,.agg (sgS x).toArray] w' fun e w''=>e=.returned (.bool c)∧Below w'.heap.size w' w''):=fun w'=>by
    have h:=oI x.h x.r x.a x.sp x.n x.c x.sq x.m x.d w' HOX.out;rw[HSQ.out,hc] at h;exact h
   have HC:=zh hc;clear hc HSQ
   cases c
   ·-- A
    refine wp_region_held_drew (S:=fun w'=>Below B w1 w') (by kernel_rfl) HSB.out.drew (fun hHeld=>?_);refine zv 0 rfl ?_;refine' zk 1 rfl (v:=_) (yieldsIf_load_mid (by rfl) _ _ rfl _ _ rfl _ _ ?hS1n2 Tryz.underlying44 rfl HIP.out) ?rest1n2
    case hS1n2 =>
     intro w' hSw;exact aB HG1.out.p hSw HLT.out
    try simp only[Act.put,zu]
    refine zv 2 rfl ?_;refine' zk 3 rfl (v:=_) (yieldsIf_load_mid (by rfl) _ _ rfl _ _ rfl _ _ ?hS3n4 Tryz.underlying48 rfl HIS.out) ?rest3n4
    case hS3n4 =>
     intro w' hSw;exact aB (HG1.out.s HOX.out) hSw HLT.out
    try simp only[Act.put,zu]
    refine zr 4 rfl (fun K hK=>?_);go_simp
    with_reducible refine (HCS.out _).mono ?_
    rintro e v1 ⟨rfl,hb⟩;have HSV:Hid (Below B w1 v1):=(HSB.out.drew).trans (hb.mono (by have:=HSB.out.size;show B≤w1.heap.size;omega));clear hb;go_wp2_with fail;refine hK.out _ _ HSV.out fun _=>?_;clear hK K
    try simp only[Act.put,zu]
    refine zv 5 rfl ?_;refine zv 6 rfl ?_;refine zk 7 rfl (v:=undef) (.inr ⟨by rfl,rfl⟩) ?_;try simp only[Act.put,zu]
    refine zk 8 rfl (v:=undef) (.inr ⟨by rfl,rfl⟩) ?_;try simp only[Act.put,zu]
    refine zk 9 rfl (v:=undef) (.inr ⟨by rfl,rfl⟩) ?_;try simp only[Act.put,zu]
    refine zk 10 rfl (v:=undef) (.inr ⟨by rfl,rfl⟩) ?_;try simp only[Act.put,zu]
    refine zk 11 rfl (v:=undef) (.inr ⟨by rfl,rfl⟩) ?_;try simp only[Act.put,zu]
    refine zk 12 rfl (v:=undef) (.inr ⟨by rfl,rfl⟩) ?_;try simp only[Act.put,zu]
    refine zk 13 rfl (v:=undef) (.inr ⟨by rfl,rfl⟩) ?_;try simp only[Act.put,zu]
    refine zk 14 rfl (v:=undef) (.inr ⟨by rfl,rfl⟩) ?_;try simp only[Act.put,zu]
    refine zk 15 rfl (v:=undef) (.inr ⟨by rfl,rfl⟩) ?_;try simp only[Act.put,zu]
    refine zk 16 rfl (v:=undef) (.inr ⟨by rfl,rfl⟩) ?_;try simp only[Act.put,zu]
    refine zk 17 rfl (v:=undef) (.inr ⟨by rfl,rfl⟩) ?_;try simp only[Act.put,zu]
    refine zk 18 rfl (v:=undef) (.inr ⟨by rfl,rfl⟩) ?_;try simp only[Act.put,zu]
    refine zv 19 rfl ?_;refine zd ?_ _;have HNO:=zh (OO (i:=k) (by rw[List.length_map];have:=HL.out.len;omega) (CT HX.out HC.out));go_wp2_with fail;go_ret;exact⟨by rw[HNO.out];rfl,(hbe.out.trans (HB1.out.mono (hbe.out.size))).trans (HSV.out.mono (by have:=hbe.out.size;omega))⟩
   ·by_cases hk0':k=0
    ·subst hk0';have hd0:decide ((0:Int)>0)=false:=by simp
     refine wp_region_held_drew (S:=fun w'=>Below B w1 w') (by kernel_rfl) HSB.out.drew (fun hHeld=>?_);refine zv 0 rfl ?_;refine' zk 1 rfl (v:=_) (yieldsIf_load_mid (by rfl) _ _ rfl _ _ rfl _ _ ?hS1n21 Tryz.underlying44 rfl HIP.out) ?rest1n21
     case hS1n21 =>
      intro w' hSw;exact aB HG1.out.p hSw HLT.out
     try simp only[Act.put,zu]
     refine zv 2 rfl ?_;refine' zk 3 rfl (v:=_) (yieldsIf_load_mid (by rfl) _ _ rfl _ _ rfl _ _ ?hS3n23 Tryz.underlying48 rfl HIS.out) ?rest3n23
     case hS3n23 =>
      intro w' hSw;exact aB (HG1.out.s HOX.out) hSw HLT.out
     try simp only[Act.put,zu]
     refine zr 4 rfl (fun K hK=>?_);go_simp
     with_reducible refine (HCS.out _).mono ?_
     rintro e v1 ⟨rfl,hb⟩;have HSV:Hid (Below B w1 v1):=(HSB.out.drew).trans (hb.mono (by have:=HSB.out.size;show B≤w1.heap.size;omega));clear hb;go_wp2_with fail;refine hK.out _ _ HSV.out fun _=>?_;clear hK K
     try simp only[Act.put,zu]
     refine zv 5 rfl ?_;refine zv 6 rfl ?_;refine zv 7 rfl ?_;refine zv 8 rfl ?_;refine zv 9 rfl ?_;refine zk 10 rfl (v:=undef) (.inr ⟨by rfl,rfl⟩) ?_;try simp only[Act.put,zu]
     refine zk 11 rfl (v:=undef) (.inr ⟨by rfl,rfl⟩) ?_;try simp only[Act.put,zu]
     refine zk 12 rfl (v:=undef) (.inr ⟨by rfl,rfl⟩) ?_;try simp only[Act.put,zu]
     refine zk 13 rfl (v:=undef) (.inr ⟨by rfl,rfl⟩) ?_;try simp only[Act.put,zu]
     refine zk 14 rfl (v:=undef) (.inr ⟨by rfl,rfl⟩) ?_;try simp only[Act.put,zu]
     refine zk 15 rfl (v:=undef) (.inr ⟨by rfl,rfl⟩) ?_;try simp only[Act.put,zu]
     refine zk 16 rfl (v:=undef) (.inr ⟨by rfl,rfl⟩) ?_;try simp only[Act.put,zu]
     refine zk 17 rfl (v:=undef) (.inr ⟨by rfl,rfl⟩) ?_;try simp only[Act.put,zu]
     refine zv 18 rfl ?_;refine zv 19 rfl ?_;refine zd ?_ _;go_wp2_with fail;go_roundw
     case rel=>exact⟨0+1,by omega,by go_num,fun j hj=>(by rcases Nat.lt_succ_iff_lt_or_eq.1 hj with h | rfl;exact HA.out j h;exact (by rw[xK HX.out];exact HC.out)),(hbe.out.trans (HB1.out.mono (hbe.out.size))).trans (HSV.out.mono (by have:=hbe.out.size;omega))⟩
     case measure=>simp[intOf] <;> omega
    ·obtain⟨m,rfl⟩:∃ m,k=m+1:=⟨k-1,by omega⟩;have hml:m<l.length:=by rw[HL.out.len];omega
     obtain⟨y,hy⟩:∃ y,l[m]? = some y:=⟨l[m],List.getElem?_eq_getElem hml⟩;have hym:y ∈ l:=List.mem_of_getElem? hy;have HOY:=zh (HL.out.ok y hym);have HIY:=zh (gG HOY.out);have HRY:Hid (w1.rangeAt b (off+m*20) (aX y)):=aB (aB (HRR.out m y hy) hbe.out XQ.out) HB1.out (by have:=XQ.out;have:=hbe.out.size;omega);have HSU:=zh (xL HX.out hy);have HCK:Hid (∀ w',Below B w1 w'→Calls Tryz.prog 68 #[.agg (aX y).toArray,.agg (aX x).toArray] w' fun e w''=>e=.returned (.int .i64 (IN (idP (pg y)) (idP (pg x))))∧Below w'.heap.size w' w''):=fun w' hb=>gL y x w' HOY.out HOX.out (HK.out.below (HBW.out.trans (hb.mono hwB)) hk0) (by have:=HBW.out.size;have:=hb.size;omega);have HGE:=zh (WL (iU (pg y)) (iU (pg x)));clear hy hym hml;have hd0:decide (((m+1:Nat):Int)>0)=true:=decide_eq_true zo;have q1:(0:Int)≤((m+1:Nat):Int)-1:=by omega
     have q2:((m+1:Nat):Int)-1<(n:Int):=by omega
     have q3:IntKind.i64.wrap (((m+1:Nat):Int)-1)=(m:Int):=by rw[IntKind.wrap_i64];omega
     have q4:(((m+1:Nat):Int)-1).toNat=m:=by omega
     have q5:(0:Int)≤(m:Int):=by omega
     have q7:IntKind.i64.wrap (m:Int)=(m:Int):=by rw[IntKind.wrap_i64];omega
     have q6:(m:Int)<(n:Int):=by omega
     generalize IN (idP (pg y)) (idP (pg x))=z at *
     cases hdl:dls (idP (pg y)) (idP (pg x))
     ·have hz:decide (z ≥ 0)=true:=by rw[HGE.out,hdl];rfl
      have HWY:Hid (tF (l.map pg) (m+1)=false):=by show _=_;rw[HSU.out,hdl];simp
      clear hdl;refine wp_region_held_drew (S:=fun w'=>Below B w1 w') (by kernel_rfl) HSB.out.drew (fun hHeld=>?_);refine zv 0 rfl ?_;refine' zk 1 rfl (v:=_) (yieldsIf_load_mid (by rfl) _ _ rfl _ _ rfl _ _ ?hS1n40 Tryz.underlying44 rfl HIP.out) ?rest1n40
      case hS1n40 =>
       intro w' hSw;exact aB HG1.out.p hSw HLT.out
      try simp only[Act.put,zu]
      refine zv 2 rfl ?_;refine' zk 3 rfl (v:=_) (yieldsIf_load_mid (by rfl) _ _ rfl _ _ rfl _ _ ?hS3n42 Tryz.underlying48 rfl HIS.out) ?rest3n42
      case hS3n42 =>
       intro w' hSw;exact aB (HG1.out.s HOX.out) hSw HLT.out
      try simp only[Act.put,zu]
      refine zr 4 rfl (fun K hK=>?_);go_simp
      with_reducible refine (HCS.out _).mono ?_
      rintro e v1 ⟨rfl,hb⟩;have HSV:Hid (Below B w1 v1):=(HSB.out.drew).trans (hb.mono (by have:=HSB.out.size;show B≤w1.heap.size;omega));clear hb;go_wp2_with fail;refine hK.out _ _ HSV.out fun _=>?_;clear hK K
      try simp only[Act.put,zu]
      refine zv 5 rfl ?_;refine zv 6 rfl ?_;refine zv 7 rfl ?_;refine zv 8 rfl ?_;refine zv 9 rfl ?_;refine zv 10 rfl ?_;refine zv 11 rfl ?_;refine zv 12 rfl ?_;refine zv 13 rfl ?_;refine' zk 14 rfl (v:=_) (yieldsIf_load_mid (by rfl) _ _ rfl _ _ rfl _ _ ?hS14n52 Tryz.underlying50 rfl HIY.out) ?rest14n52
      case hS14n52 =>
       intro w' hSw;exact aB HRY.out (hSw) HLB.out
      try simp only[Act.put,zu]
      refine' zk 15 rfl (v:=_) (yieldsIf_load_mid (by rfl) _ _ rfl _ _ rfl _ _ ?hS15n53 Tryz.underlying50 rfl HI.out) ?rest15n53
      case hS15n53 =>
       intro w' hSw;exact aB HG1.out.all hSw HLT.out
      try simp only[Act.put,zu]
      refine zr 16 rfl (fun K hK=>?_);go_simp
      with_reducible refine (HCK.out _ HSV.out).mono ?_
      rintro e v2 ⟨rfl,hb⟩;have aAr:Hid (Below B w1 v2):=HSV.out.trans (hb.mono (by have:=HSV.out.size;omega));clear hb;go_wp2_with fail;refine hK.out _ _ aAr.out fun _=>?_;clear hK K
      try simp only[Act.put,zu]
      refine zv 17 rfl ?_;refine zv 18 rfl ?_;refine zv 19 rfl ?_;refine zd ?_ _;have HNO:=zh (OO (i:=m+1) (by rw[List.length_map];have:=HL.out.len;omega) HWY.out);go_wp2_with fail;go_ret;exact⟨by rw[HNO.out];rfl,(hbe.out.trans (HB1.out.mono (hbe.out.size))).trans (aAr.out.mono (by have:=hbe.out.size;omega))⟩
     ·have hz:decide (z ≥ 0)=false:=by rw[HGE.out,hdl];rfl
      have HWY:Hid (tF (l.map pg) (m+1)=true):=by show _=_;rw[HSU.out,hdl,HC.out];rfl
      clear hdl;refine wp_region_held_drew (S:=fun w'=>Below B w1 w') (by kernel_rfl) HSB.out.drew (fun hHeld=>?_);refine zv 0 rfl ?_;refine' zk 1 rfl (v:=_) (yieldsIf_load_mid (by rfl) _ _ rfl _ _ rfl _ _ ?hS1n58 Tryz.underlying44 rfl HIP.out) ?rest1n58
      case hS1n58 =>
       intro w' hSw;exact aB HG1.out.p hSw HLT.out
      try simp only[Act.put,zu]
      refine zv 2 rfl ?_;refine' zk 3 rfl (v:=_) (yieldsIf_load_mid (by rfl) _ _ rfl _ _ rfl _ _ ?hS3n60 Tryz.underlying48 rfl HIS.out) ?rest3n60
      case hS3n60 =>
       intro w' hSw;exact aB (HG1.out.s HOX.out) hSw HLT.out
      try simp only[Act.put,zu]
      refine zr 4 rfl (fun K hK=>?_);go_simp
      with_reducible refine (HCS.out _).mono ?_
      rintro e v1 ⟨rfl,hb⟩;have HSV:Hid (Below B w1 v1):=(HSB.out.drew).trans (hb.mono (by have:=HSB.out.size;show B≤w1.heap.size;omega));clear hb;go_wp2_with fail;refine hK.out _ _ HSV.out fun _=>?_;clear hK K
      try simp only[Act.put,zu]
      refine zv 5 rfl ?_;refine zv 6 rfl ?_;refine zv 7 rfl ?_;refine zv 8 rfl ?_;refine zv 9 rfl ?_;refine zv 10 rfl ?_;refine zv 11 rfl ?_;refine zv 12 rfl ?_;refine zv 13 rfl ?_;refine' zk 14 rfl (v:=_) (yieldsIf_load_mid (by rfl) _ _ rfl _ _ rfl _ _ ?hS14n70 Tryz.underlying50 rfl HIY.out) ?rest14n70
      case hS14n70 =>
       intro w' hSw;exact aB HRY.out (hSw) HLB.out
      try simp only[Act.put,zu]
      refine' zk 15 rfl (v:=_) (yieldsIf_load_mid (by rfl) _ _ rfl _ _ rfl _ _ ?hS15n71 Tryz.underlying50 rfl HI.out) ?rest15n71
      case hS15n71 =>
       intro w' hSw;exact aB HG1.out.all hSw HLT.out
      try simp only[Act.put,zu]
      refine zr 16 rfl (fun K hK=>?_);go_simp
      with_reducible refine (HCK.out _ HSV.out).mono ?_
      rintro e v2 ⟨rfl,hb⟩;have aAr:Hid (Below B w1 v2):=HSV.out.trans (hb.mono (by have:=HSV.out.size;omega));clear hb;go_wp2_with fail;refine hK.out _ _ aAr.out fun _=>?_;clear hK K
      try simp only[Act.put,zu]
      refine zv 17 rfl ?_;refine zv 18 rfl ?_;refine zv 19 rfl ?_;refine zd ?_ _;go_wp2_with fail;go_roundw
      case rel=>exact⟨(m+1)+1,by omega,by go_num,fun j hj=>(by rcases Nat.lt_succ_iff_lt_or_eq.1 hj with h | rfl;exact HA.out j h;exact HWY.out),(hbe.out.trans (HB1.out.mono (hbe.out.size))).trans (aAr.out.mono (by have:=hbe.out.size;omega))⟩
      case measure=>simp[intOf] <;> omega
  ·obtain rfl:k=n:=by omega
   have hd:decide ((k:Int)<(k:Int))=false:=by simp
   go_wp2_with fail;go_ret;exact⟨by rw[IX (by rw[List.length_map];exact HL.out.len) HA.out];rfl,hbe.out⟩
def fM (t:ByteArray) (b:List UInt8) (L:List Pg):Bool:=nmB t.data.toList && (decide (b.length≤32768) && (decide (L.length≤8) && vsB L))
theorem fI (t:ByteArray) (sp:Option Addr) (n cap:Nat) (b:List UInt8) (sq:Option Addr) (m c2:Nat) (l:List Sg) (w:World) (ht:t.size≤maxLen) (hp:BSrc w w.heap.size sp n cap b) (hl:SgsIn w w.heap.size sq m c2 l) (hk:KayIn w) (hk0:4<w.heap.size) :
 Calls Tryz.prog 13 #[.agg (enA t (.slice sp n cap) (.slice sq m c2))] w fun e w'=>e=.returned (.bool (fM t b (l.map pg)))∧Below w.heap.size w w':=by
 have HP:=zh hp.len;have HL:=zh hl;have HK:=zh hk;have HE:=zh (heap_alloc_new w (.cells (enA t (.slice sp n cap) (.slice sq m c2)) 25));clear hp hl hk;have HV:Hid (fM t b (l.map pg)=(nmB t.data.toList && (decide (n≤32768) && (decide (m≤8) && vsB (l.map pg))))):=by show _=_;unfold fM;rw[HP.out,List.length_map,HL.out.len]
 rw[HV.out];obtain⟨f,hf⟩:∃ f,nmB t.data.toList=f:=⟨_,rfl⟩;obtain⟨g,hg⟩:∃ g,vsB (l.map pg)=g:=⟨_,rfl⟩;rw[hf,hg];have HF:=zh hf;have HG:=zh hg;clear hf hg HV
 go_enter Tryz.func13,Tryz.ntmps13
 go_upto_region 1 with fail
 generalize hw0:World.alloc w _=w0;have HE0:Hid (Ah w0 w.heap.size (enA t (.slice sp n cap) (.slice sq m c2)) 25):=by rw[←hw0];exact HE.out
 have HB0:Hid (Bw w w0):=by rw[←hw0];exact (Below.refl _ _).alloc zl _
 have hs0:w0.heap.size=w.heap.size+1:=by rw[←hw0];simp
 clear hw0 HE;have c0:=IM HE0.out;have c1:=qU HE0.out;have cz:=iW HE0.out;have HCN:Hid (Calls Tryz.prog 31 #[.string t] w0 fun e w'=>e=.returned (.bool f)∧w0=w'):=by rw[←HF.out];exact RQ t w0 ht
 have HCV:Hid (m≤8→Calls Tryz.prog 32 #[.slice sq m c2] w0 fun e w''=>e=.returned (.bool g)∧Below w0.heap.size w0 w''):=fun h8=>by rw[←HG.out];exact uU sq m c2 l w0 (HL.out.up HB0.out zl) zo (HK.out.below HB0.out hk0) zo
 cases f
 ·go_wp2_with fail;refine HCN.out.mono ?_;rintro e w' ⟨rfl,rfl⟩;go_wp2_with fail;go_ret;exact⟨rfl,HB0.out⟩
 ·by_cases h1:n≤32768
  ·have hd1:decide ((n:Int)≤32768)=true:=by simp;omega
   have HE1:Hid (decide (n≤32768)=true):=decide_eq_true h1;by_cases h2:m≤8
   ·have hd2:decide ((m:Int)≤8)=true:=by simp;omega
    have HE2:Hid (decide (m≤8)=true):=decide_eq_true h2;have HCV2:=zh (HCV.out h2);clear HCV;go_wp2_with fail;refine HCN.out.mono ?_;rintro e w' ⟨rfl,rfl⟩;go_wp2_with fail;refine HCV2.out.mono ?_;rintro e w' ⟨rfl,hb⟩;have HB1:=zh hb;clear hb;go_wp2_with fail;go_ret;exact⟨by rw[HE1.out,HE2.out];rfl,HB0.out.trans (HB1.out.mono zo)⟩
   ·have hd2:decide ((m:Int)≤8)=false:=by simp;omega
    have HE2:Hid (decide (m≤8)=false):=decide_eq_false h2;clear HCV;go_wp2_with fail;refine HCN.out.mono ?_;rintro e w' ⟨rfl,rfl⟩;go_wp2_with fail;go_ret;exact⟨by rw[HE1.out,HE2.out];rfl,HB0.out⟩
  ·have hd1:decide ((n:Int)≤32768)=false:=by simp;omega
   have HE1:Hid (decide (n≤32768)=false):=decide_eq_false h1;clear HCV;go_wp2_with fail;refine HCN.out.mono ?_;rintro e w' ⟨rfl,rfl⟩;go_wp2_with fail;go_ret;exact⟨by rw[HE1.out];rfl,HB0.out⟩
end Go.Proofs.YtaeobegaodhpcaaGreatDoor
namespace Go.Proofs.YtaeobegaodhpcaaGreatDoor
open Go.RowKit
theorem dB (c:Int) (w:World) :
 Calls Tryz.prog 81 #[.int .u8 c] w fun e w'=>e=.returned (.bool (lU c))∧w=w':=by
 by_cases h1:33≤c
 ·by_cases h2:c≤125
  ·go_enter Tryz.func81,Tryz.ntmps81
   go_wp2
   go_ret;exact⟨bM (by unfold lU;rw[decide_eq_true h1,decide_eq_true h2];rfl),rfl⟩
  ·go_enter Tryz.func81,Tryz.ntmps81
   go_wp2
   go_ret;exact⟨bM (by unfold lU;rw[decide_eq_false (p:=c≤_) zo];simp),rfl⟩
 ·go_enter Tryz.func81,Tryz.ntmps81
  go_wp2
  go_ret;exact⟨bM (by unfold lU;rw[decide_eq_false (p:=_≤c) zo];simp),rfl⟩
theorem rP (s:ByteArray) (w:World) (hlen:3*s.size+1≤1099511627776) :
 Calls Tryz.prog 48 #[.string s] w fun e w'=>e=.returned (.string ⟨(dK s.data.toList).toArray⟩)∧Below w.heap.size w w':=by
 obtain⟨i0,hi0,hz0,hz1,hz2⟩:=info_parts Tryz.info5;have HI0:=zh hi0;have HZ0:=zh hz0;have HZ1:=zh hz1;have HZ2:=zh hz2;clear hi0 hz0 hz1 hz2;by_cases h0:s.size=0
 ·have e0:s.toList=[]:=by rw[Lib.toList_data];exact List.eq_nil_of_length_eq_zero (by rw[←Lib.size_eq];exact h0)
  have HW:=zh (show dK s.data.toList=[126] by rw[←Lib.toList_data,e0];rfl);generalize dK s.data.toList=wl at *;clear h0
  go_enter Tryz.func48,Tryz.ntmps48
  go_wp2_with fail;go_ret;exact⟨by rw[HW.out];rfl,Below.refl _ _⟩
 ·have e0:s.toList.isEmpty=false:=by
   rw[Lib.toList_data,List.isEmpty_eq_false_iff];intro h;rw[Lib.size_eq,h] at h0;simp at h0
  have HW:=zh (show dK s.data.toList=(s.data.toList.take s.size).flatMap sL by
   unfold dK;rw[mQ,if_neg (by intro h;rw[Lib.size_eq,h] at h0;simp at h0)])
  generalize dK s.data.toList=wl at *;clear h0
  go_enter Tryz.func48,Tryz.ntmps48
  go_wp2_with fail
  go_loopw [4,5] (fun b i wr=>∃ k:Nat,k≤s.size∧i=.int .i64 k∧Hid (wr.ownsRow w.heap.size 5 1 b ((s.data.toList.take k).flatMap sL).length (Lib.byteCells ((s.data.toList.take k).flatMap sL)))∧Below w.heap.size w wr) (fun _ i _=>s.size-(intOf i).toNat)
  case atStart=>exact⟨0,by omega,rfl,World.ownsRow_nil _ _ _ _,Below.refl _ _⟩
  case round =>
   obtain⟨k,hk,rfl,hown,hbe⟩:=hrel;by_cases hlt:k<s.size
   ·have HS:=zh (zO s k hlt);have hle:=BZ (s.data.toList.take k);have hle2:(s.data.toList.take k).length≤k:=List.length_take_le _ _;have hbs:=hbe.size;generalize (s.data.toList.take k).flatMap sL=fl at *
    cases hp:lU (s[k].toNat)
    ·have HK:=zh (EH hp);have HP:=zh hp;clear hp;have hc256:s[k].toNat<256:=UInt8.toNat_lt _;have hx1:=nK (s[k].toNat / 16) zo;have hx2:=nK (s[k].toNat % 16) zo;rw[show ((s[k].toNat / 16:Nat):Int)=(s[k].toNat:Int) / 16 by omega] at hx1;rw[show ((s[k].toNat % 16:Nat):Int)=(s[k].toNat:Int) % 16 by omega] at hx2;have hand:=aAf s[k];have hk0:(0:Int)≤(k:Int):=by omega
     have hk1:(k:Int)<(s.size:Int):=by omega
     go_wp2_with (go_at_call 81;refine (dB _ _).mono ?_;rintro e w' ⟨rfl,rfl⟩;rw[HP.out])
     go_region_held3 (fun _=>True) (trivial) ((refine kG rfl (.tmp 24) (.tmp 37) 22 (by rfl) w.heap.size 5 i0 (.int .u8 0) 1 1 Tryz.underlying22 HI0.out HZ0.out HZ1.out HZ2.out rfl (by decide) _ _ _ (by rfl) (by exact (hown.out.alloc _).drew) ⟨wr.heap.size,0,none⟩ 3 3 (Lib.byteCells [37,QM (s[k].toNat / 16),QM (s[k].toNat % 16)]) (by rfl) (by rfl) (by exact uK _ _ _) (Lib.byteCells_one _) (by unfold maxLen;omega) zo (by simp;omega) ?_;intro v' w1 hown1 hg1 _;have HO1:=zh hown1;clear hown1))
     all_goals
      go_wp2
      go_roundw
      case rel =>
       refine⟨k+1,by omega,by go_num,?_,?_⟩
       ·rw[HS.out,HK.out];have:=HO1.out;show World.ownsRow _ _ _ _ _ _ _;simpa [Lib.byteCells_append,Lib.byteCells,Nat.add_assoc] using this
       ·exact ((hbe.alloc hbs _).drew).grown hg1 (by simp;omega) (dG hown.out)
      case measure=>simp[intOf];omega
    ·have HK:=zh (oY hp);have HP:=zh hp;clear hp
     go_wp2_with (first
      | (go_at_call 81;refine (dB _ _).mono ?_;rintro e w' ⟨rfl,rfl⟩;rw[HP.out])
      | (at_builtin;refine wpList_append_own _ rfl (.tmp 18) (.tmp 22) 22 rfl w.heap.size 5 i0 (.int .u8 0) 1 1 Tryz.underlying22 HI0.out HZ0.out HZ1.out HZ2.out rfl (by decide) _ _ _ rfl (hown.out.alloc _) ⟨wr.heap.size,0,none⟩ 1 1 [.int .u8 (s[k].toNat:Int)] rfl rfl (cell_one_new _ _ _) (by intro u hu;simp at hu;subst hu;rfl) (by unfold maxLen;omega) zo (by simp;omega) ?_;intro v' w1 hown1 hg1 _;have HO1:=zh hown1;clear hown1))
     go_roundw
     case rel =>
      refine⟨k+1,by omega,by go_num,?_,?_⟩
      ·rw[HS.out,HK.out];have:=HO1.out;show World.ownsRow _ _ _ _ _ _ _;simpa [Lib.byteCells_append,Lib.byteCells,Nat.add_assoc] using this
      ·exact (hbe.alloc hbs _).grown hg1 (by simp;omega) (dG hown.out)
     case measure=>simp[intOf];omega
   ·obtain rfl:k=s.size:=by omega
    have hcv:=iB hown.out;rw[←HW.out] at hcv
    go_wp2
    go_ret;exact⟨rfl,hbe⟩
end Go.Proofs.YtaeobegaodhpcaaGreatDoor
