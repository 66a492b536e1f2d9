/-
  Envelopes: the walks of the reference's Valid and Signers.
-/
import Derived.Test.YtaeobegaodhpcaaGreatDoorZip
import Derived.Test.YtaeobegaodhpcaaGreatDoorQ20
set_option maxRecDepth 100000
set_option maxHeartbeats 8000000
namespace Go.Proofs.YtaeobegaodhpcaaGreatDoor
open Go.RowKit Go.Proofs.YtaeobegaodhpcaaGreatDoor.One
theorem mB (t:ByteArray) (sp:Option Addr) (n0 cap:Nat) (b0:List UInt8) (sq:Option Addr) (n c2:Nat) (l:List Sg) (w:World) (ht:t.size≤maxLen) (hp:BSrc w w.heap.size sp n0 cap b0) (hl:SgsIn w w.heap.size sq n c2 l) :
 Calls Tryz.prog 19 #[.agg (enA t (.slice sp n0 cap) (.slice sq n c2))] w fun e w'=>e=.returned (.bool (fM t b0 (l.map pg)))∧Below w.heap.size w w':=by
 have HP:=zh hp.len;have HL:=zh hl;have HE:=zh (heap_alloc_new w (.cells (enA t (.slice sp n0 cap) (.slice sq n c2)) 25));clear hp hl;have HV:Hid (fM t b0 (l.map pg)=(nmB t.data.toList && (decide (n0≤32768) && (decide (n≤8) && vsB (l.map pg))))):=by show _=_;unfold fM;rw[HP.out,List.length_map,HL.out.len]
 obtain⟨V,hV⟩:∃ V,fM t b0 (l.map pg)=V:=⟨_,rfl⟩;obtain⟨f,hf⟩:∃ f,nmB t.data.toList=f:=⟨_,rfl⟩;rw[hV];rw[hV,hf] at HV;have HF:=zh hf;clear hV hf
 go_enter Tryz.func19,Tryz.ntmps19
 go_upto_region 1 with fail
 generalize hw0:World.alloc w _=w0;have HE0:Hid (Ah w0 w.heap.size (enA t (.slice sp n0 cap) (.slice sq n c2)) 25):=by rw[←hw0];exact HE.out
 have HB0:Hid (Bw w w0):=by rw[←hw0];exact (Below.refl _ _).alloc zl _
 have hs0:w0.heap.size=w.heap.size+1:=by rw[←hw0];simp
 clear hw0 HE;have c0:=IM HE0.out;have c1:=qU HE0.out;have cz:=iW HE0.out;have HCN:Hid (Calls Tryz.prog 44 #[.string t] w0 fun e w'=>e=.returned (.bool f)∧w0=w'):=by rw[←HF.out];exact BD t w0 ht
 cases f
 ·go_wp2_with fail;refine HCN.out.mono ?_;rintro e w' ⟨rfl,rfl⟩;go_wp2_with fail;go_ret;exact⟨by rw[HV.out];rfl,HB0.out⟩
 ·by_cases h1:n0≤32768
  ·have hd1:decide ((n0:Int)>32768)=false:=by simp;omega
   have HE1:Hid (decide (n0≤32768)=true):=decide_eq_true h1;by_cases h2:n≤8
   ·have hd2:decide ((n:Int)>8)=false:=by simp;omega
    have HE2:Hid (decide (n≤8)=true):=decide_eq_true h2;have HVV:Hid (V=vsB (l.map pg)):=by show _=_;rw[HV.out,HE1.out,HE2.out];rfl
    clear HV HE1 HE2;go_wp2_with fail;refine HCN.out.mono ?_;rintro e w' ⟨rfl,rfl⟩;go_wp2_with fail;clear c0 c1 cz hd1 hd2 HCN;have HLW:Hid (w.heap.size<w0.heap.size):=by show _<_;omega
    go_loopw [3] (fun i wr=>∃ k:Nat,k≤n∧i=.int .i64 k∧Hid (∀ j,j<k→tF (l.map pg) j=true)∧Hid (Below w0.heap.size w0 wr)) (fun i _=>n-(intOf i).toNat)
    case atStart=>exact⟨0,Nat.zero_le _,rfl,fun j hj=>absurd hj (Nat.not_lt_zero _),Below.refl _ _⟩
    case round =>
     obtain⟨k,hk,rfl,HA,HBR0⟩:=hrel;have hbe:Below w.heap.size w wr:=HB0.out.trans (HBR0.out.mono (Nat.le_of_lt HLW.out));have HBE:=zh hbe;have hszr:=HBR0.out.size;have HER:=zh ((HBR0.out.block _ HLW.out).trans HE0.out);clear hbe;have cs:=iW HER.out;by_cases hlt:k<n
     ·have hd:decide ((k:Int)<(n:Int))=true:=by simp;omega
      obtain⟨b,off,rfl,hbB,hcap,hr⟩:=HL.out.cells zo;have hkl:k<l.length:=by rw[HL.out.len];exact hlt
      obtain⟨x,hx⟩:∃ x,l[k]? = some x:=⟨l[k],List.getElem?_eq_getElem hkl⟩;have hxm:x ∈ l:=List.mem_of_getElem? hx;have HR:=zh (aB (hr k x hx) HBE.out hbB);have HOX:=zh (HL.out.ok x hxm);have HI:=zh (gG HOX.out);have HIP:=zh (iG HOX.out);have HIS:=zh (oS x);have HX:=zh hx;have HRR:=zh hr;have XQ:=zh hbB;have HSQ:=zh (JS (HL.out.dat x hxm));have p1:(0:Int)≤(k:Int):=by omega
      have p2:(k:Int)<(n:Int):=by omega
      have p3:(n:Int)≤(c2:Int):=by omega
      have HZG:=zh (heap_alloc_new wr (.cells zG.toArray 50));clear hr hx hxm hkl hbB
      go_upto_region 7 with (first
       | (refine wpList_load_mid rfl 50 _ rfl b (off+k*20) rfl _ _ HR.out Tryz.underlying50 rfl HI.out ?_)
       | (refine wpList_store_row rfl 50 _ _ rfl wr.heap.size _ rfl rfl 50 _ HZG.out (aS HOX.out) (bR HOX.out) (bG x) ?_;rw[aK];generalize hw1:World.alloc wr _=w1;have HG1:Hid (GB w1 wr.heap.size x):=(by rw[←hw1];exact GB.new wr x);have HB1:Hid (Below wr.heap.size wr w1):=(by rw[←hw1];exact (Below.refl _ _).alloc zl _);have hs1:w1.heap.size=wr.heap.size+1:=(by rw[←hw1];simp);clear hw1))
      clear HZG cs;obtain⟨B,hBe⟩:∃ B,B=w1.heap.size:=⟨_,rfl⟩;have HLT:Hid (wr.heap.size<B):=by show _<_;omega
      have HLE:Hid (w.heap.size<B):=by show _<_;have:=HLW.out;omega
      have HLB:Hid (b<B):=by show _<_;have:=XQ.out;have:=HLW.out;omega
      have HBW:=zh (HBE.out.trans (HB1.out.mono HBE.out.size));have HE1:Hid (Ah w1 w.heap.size (enA t (.slice sp n0 cap) (.slice (some ⟨b,off,none⟩) n c2)) 25):=(HB1.out.block _ (by have:=HLW.out;omega)).trans HER.out;have hwB:w.heap.size≤B:=Nat.le_of_lt HLE.out;have hw0B:w0.heap.size≤B:=by omega
      have hBk:B≤w1.heap.size:=Nat.le_of_eq hBe;have HBK2:Hid (w1.heap.size≤B):=Nat.le_of_eq hBe.symm;have aBw:=zh (HBR0.out.trans (HB1.out.mono hszr));clear hBe;have HPG:=zh HG1.out.p;have HSGX:=zh (HG1.out.s HOX.out);obtain⟨c,hc⟩:∃ c,tL (pg x)=c:=⟨_,rfl⟩;have HCS:Hid (Calls Tryz.prog 45 #[.agg (sgP x).toArray,.agg (sgS x).toArray] w1 fun e w''=>e=.returned (.bool c)∧Below w1.heap.size w1 w''):=by
       have h:=AZ x.h x.r x.a x.sp x.n x.c x.sq x.m x.d w1 HOX.out;rw[HSQ.out,hc] at h;exact h
      have HC:=zh hc;clear hc HSQ
      go_wp2_with (first
       | (refine wpList_load_mid rfl 44 _ rfl wr.heap.size 0 rfl _ _ HPG.out Tryz.underlying44 rfl HIP.out ?_)
       | (refine wpList_load_mid rfl 48 _ rfl wr.heap.size 17 rfl _ _ HSGX.out Tryz.underlying48 rfl HIS.out ?_))
      refine HCS.out.mono ?_;rintro e wS ⟨rfl,hb⟩;have OH:Hid (Below B w1 wS):=hb.mono hBk;clear hb HCS
      cases c
      ·go_wp2_with fail;go_ret;exact⟨by rw[HVV.out,OO (i:=k) (by rw[List.length_map];have:=HL.out.len;omega) (CT HX.out HC.out)];rfl,HBW.out.trans (OH.out.mono hwB)⟩
      ·have HG1S:=zh (HG1.out.below OH.out HLT.out);by_cases hk0':k=0
       ·subst hk0';have hd0:decide ((0:Int)>0)=false:=by simp
        go_wp2_with fail;refine wp_region_held_drew (S:=fun w'=>Below B w1 w') (by kernel_rfl) OH.out.drew (fun hHeld=>?_);refine zv 0 rfl ?_;refine zv 1 rfl ?_;refine zv 2 rfl ?_;refine zk 3 rfl (v:=undef) (.inr ⟨by rfl,rfl⟩) ?_;try simp only[Act.put,zu]
        refine zk 4 rfl (v:=undef) (.inr ⟨by rfl,rfl⟩) ?_;try simp only[Act.put,zu]
        refine zk 5 rfl (v:=undef) (.inr ⟨by rfl,rfl⟩) ?_;try simp only[Act.put,zu]
        refine zk 6 rfl (v:=undef) (.inr ⟨by rfl,rfl⟩) ?_;try simp only[Act.put,zu]
        refine zk 7 rfl (v:=undef) (.inr ⟨by rfl,rfl⟩) ?_;try simp only[Act.put,zu]
        refine zk 8 rfl (v:=undef) (.inr ⟨by rfl,rfl⟩) ?_;try simp only[Act.put,zu]
        refine zk 9 rfl (v:=undef) (.inr ⟨by rfl,rfl⟩) ?_;try simp only[Act.put,zu]
        refine zk 10 rfl (v:=undef) (.inr ⟨by rfl,rfl⟩) ?_;try simp only[Act.put,zu]
        refine zk 11 rfl (v:=undef) (.inr ⟨by rfl,rfl⟩) ?_;try simp only[Act.put,zu]
        refine zk 12 rfl (v:=undef) (.inr ⟨by rfl,rfl⟩) ?_;try simp only[Act.put,zu]
        refine zk 13 rfl (v:=undef) (.inr ⟨by rfl,rfl⟩) ?_;try simp only[Act.put,zu]
        refine zk 14 rfl (v:=undef) (.inr ⟨by rfl,rfl⟩) ?_;try simp only[Act.put,zu]
        refine zk 15 rfl (v:=undef) (.inr ⟨by rfl,rfl⟩) ?_;try simp only[Act.put,zu]
        refine zv 16 rfl ?_;refine zd ?_ _;go_wp2_with fail;go_roundw
        case rel=>exact⟨0+1,by omega,by go_num,fun j hj=>(by rcases Nat.lt_succ_iff_lt_or_eq.1 hj with h | rfl;exact HA.out j h;exact (by rw[xK HX.out];exact HC.out)),aBw.out.trans (OH.out.drew.mono hw0B)⟩
        case measure=>simp[intOf] <;> omega
       ·obtain⟨m,rfl⟩:∃ m,k=m+1:=⟨k-1,by omega⟩;have hml:m<l.length:=by rw[HL.out.len];omega
        obtain⟨y,hy⟩:∃ y,l[m]? = some y:=⟨l[m],List.getElem?_eq_getElem hml⟩;have hym:y ∈ l:=List.mem_of_getElem? hy;have HOY:=zh (HL.out.ok y hym);have HIPY:=zh (iG HOY.out);have HRY0:Hid (w1.rangeAt b (off+m*20) (aX y)):=aB (aB (HRR.out m y hy) HBE.out XQ.out) HB1.out (by have:=XQ.out;have:=HLW.out;omega);have HSU:=zh (xL HX.out hy);have HCY:Hid (∀ w',Calls Tryz.prog 37 #[.agg (sgP y).toArray] w' fun e w''=>e=.returned (.agg (dv (idP (pg y))))∧Below w'.heap.size w' w''):=fun w'=>oL y.h y.r w' HOY.out;have HCX:Hid (∀ w',Calls Tryz.prog 37 #[.agg (sgP x).toArray] w' fun e w''=>e=.returned (.agg (dv (idP (pg x))))∧Below w'.heap.size w' w''):=fun w'=>oL x.h x.r w' HOX.out;have HYO:=zh (iU (pg y));have HXO:=zh (iU (pg x));clear hy hym hml;have hd0:decide (((m+1:Nat):Int)>0)=true:=decide_eq_true zo;have q1:(0:Int)≤((m+1:Nat):Int)-1:=by omega
        have q2:((m+1:Nat):Int)-1<(n:Int):=by omega
        have q3:IntKind.i64.wrap (((m+1:Nat):Int)-1)=(m:Int):=by rw[IntKind.wrap_i64];omega
        have q4:(((m+1:Nat):Int)-1).toNat=m:=by omega
        have q5:(0:Int)≤(m:Int):=by omega
        have q6:(m:Int)<(n:Int):=by omega
        have q7:IntKind.i64.wrap (m:Int)=(m:Int):=by rw[IntKind.wrap_i64];omega
        generalize hidy:idP (pg y)=iy at *;generalize hidx:idP (pg x)=ix at *;clear hidx hidy;have HCL0:Hid (∀ w',Calls Tryz.prog 46 #[.agg (dv iy),.agg (dv ix)] w' fun e w''=>e=.returned (.bool (dls iy ix))∧Below w'.heap.size w' w''):=fun w'=>DR iy ix w' HYO.out HXO.out
        cases hdl:dls iy ix
        ·have HWY:Hid (tF (l.map pg) (m+1)=false):=by show _=_;rw[HSU.out,hdl];simp
         have HCL:=HCL0;rw[hdl] at HCL;clear hdl HCL0 HSU;go_wp2_with fail;refine wp_region_held_drew (S:=fun w'=>Below B w1 w') (by kernel_rfl) OH.out.drew (fun hHeld=>?_);refine zv 0 rfl ?_;refine zv 1 rfl ?_;refine zv 2 rfl ?_;refine zv 3 rfl ?_;refine zx 4 rfl (v:=?_) ?_ ?_;rotate_left
         ·intro w' hSw;have c2:=iW ((hSw.block _ HLE.out).trans HE1.out);go_simp;try with_reducible rfl
         refine zv 5 rfl ?_;refine zv 6 rfl ?_;refine zv 7 rfl ?_;refine zv 8 rfl ?_;refine' zk 9 rfl (v:=_) (yieldsIf_load_mid (by rfl) _ _ rfl _ _ rfl _ _ ?hS9n27 Tryz.underlying44 rfl HIPY.out) ?rest9n27
         case hS9n27 =>
          intro w' hSw;exact pL (aB HRY0.out hSw HLB.out)
         try simp only[Act.put,zu]
         refine zv 11 rfl ?_;refine' zk 12 rfl (v:=_) (yieldsIf_load_mid (by rfl) _ _ rfl _ _ rfl _ _ ?hS12n29 Tryz.underlying44 rfl HIP.out) ?rest12n29
         case hS12n29 =>
          intro w' hSw;exact aB HG1.out.p hSw HLT.out
         try simp only[Act.put,zu]
         refine zr 10 rfl (fun K hK=>?_);go_simp
         with_reducible refine (HCY.out _).mono ?_
         rintro e v1 ⟨rfl,hb⟩;have fX:Hid (Below B w1 v1):=(OH.out.drew).trans (hb.mono (by have:=((OH.out.drew)).size;have:=hBk;omega));clear hb;go_wp2_with fail;refine hK.out _ _ fX.out fun _=>?_;clear hK K
         try simp only[Act.put,zu]
         refine zr 13 rfl (fun K hK=>?_);go_simp
         with_reducible refine (HCX.out _).mono ?_
         rintro e v2 ⟨rfl,hb⟩;have mK:Hid (Below B w1 v2):=fX.out.trans (hb.mono (by have:=(fX.out).size;have:=hBk;omega));clear hb;go_wp2_with fail;refine hK.out _ _ mK.out fun _=>?_;clear hK K
         try simp only[Act.put,zu]
         refine zr 14 rfl (fun K hK=>?_);go_simp
         with_reducible refine (HCL.out _).mono ?_
         rintro e v3 ⟨rfl,hb⟩;have NS:Hid (Below B w1 v3):=mK.out.trans (hb.mono (by have:=(mK.out).size;have:=hBk;omega));clear hb;go_wp2_with fail;refine hK.out _ _ NS.out fun _=>?_;clear hK K
         try simp only[Act.put,zu]
         refine zv 15 rfl ?_;refine zv 16 rfl ?_;refine zd ?_ _;go_wp2_with fail;go_ret;exact⟨by rw[HVV.out,OO (i:=m+1) (by rw[List.length_map];have:=HL.out.len;omega) HWY.out];rfl,HBW.out.trans (NS.out.mono hwB)⟩
        ·have HWY:Hid (tF (l.map pg) (m+1)=true):=by show _=_;rw[HSU.out,hdl,HC.out];rfl
         have HCL:=HCL0;rw[hdl] at HCL;clear hdl HCL0 HSU;go_wp2_with fail;refine wp_region_held_drew (S:=fun w'=>Below B w1 w') (by kernel_rfl) OH.out.drew (fun hHeld=>?_);refine zv 0 rfl ?_;refine zv 1 rfl ?_;refine zv 2 rfl ?_;refine zv 3 rfl ?_;refine zx 4 rfl (v:=?_) ?_ ?_;rotate_left
         ·intro w' hSw;have c2:=iW ((hSw.block _ HLE.out).trans HE1.out);go_simp;try with_reducible rfl
         refine zv 5 rfl ?_;refine zv 6 rfl ?_;refine zv 7 rfl ?_;refine zv 8 rfl ?_;refine' zk 9 rfl (v:=_) (yieldsIf_load_mid (by rfl) _ _ rfl _ _ rfl _ _ ?hS9n41 Tryz.underlying44 rfl HIPY.out) ?rest9n41
         case hS9n41 =>
          intro w' hSw;exact pL (aB HRY0.out hSw HLB.out)
         try simp only[Act.put,zu]
         refine zv 11 rfl ?_;refine' zk 12 rfl (v:=_) (yieldsIf_load_mid (by rfl) _ _ rfl _ _ rfl _ _ ?hS12n43 Tryz.underlying44 rfl HIP.out) ?rest12n43
         case hS12n43 =>
          intro w' hSw;exact aB HG1.out.p hSw HLT.out
         try simp only[Act.put,zu]
         refine zr 10 rfl (fun K hK=>?_);go_simp
         with_reducible refine (HCY.out _).mono ?_
         rintro e v1 ⟨rfl,hb⟩;have fX:Hid (Below B w1 v1):=(OH.out.drew).trans (hb.mono (by have:=((OH.out.drew)).size;have:=hBk;omega));clear hb;go_wp2_with fail;refine hK.out _ _ fX.out fun _=>?_;clear hK K
         try simp only[Act.put,zu]
         refine zr 13 rfl (fun K hK=>?_);go_simp
         with_reducible refine (HCX.out _).mono ?_
         rintro e v2 ⟨rfl,hb⟩;have mK:Hid (Below B w1 v2):=fX.out.trans (hb.mono (by have:=(fX.out).size;have:=hBk;omega));clear hb;go_wp2_with fail;refine hK.out _ _ mK.out fun _=>?_;clear hK K
         try simp only[Act.put,zu]
         refine zr 14 rfl (fun K hK=>?_);go_simp
         with_reducible refine (HCL.out _).mono ?_
         rintro e v3 ⟨rfl,hb⟩;have NS:Hid (Below B w1 v3):=mK.out.trans (hb.mono (by have:=(mK.out).size;have:=hBk;omega));clear hb;go_wp2_with fail;refine hK.out _ _ NS.out fun _=>?_;clear hK K
         try simp only[Act.put,zu]
         refine zv 15 rfl ?_;refine zv 16 rfl ?_;refine zd ?_ _;go_wp2_with fail;go_roundw
         case rel=>exact⟨(m+1)+1,by omega,by go_num,fun j hj=>(by rcases Nat.lt_succ_iff_lt_or_eq.1 hj with h | rfl;exact HA.out j h;exact HWY.out),aBw.out.trans (NS.out.mono hw0B)⟩
         case measure=>simp[intOf] <;> omega
     ·obtain rfl:k=n:=by omega
      have hd:decide ((k:Int)<(k:Int))=false:=by simp
      go_wp2_with fail;go_ret;exact⟨by rw[HVV.out,IX (by rw[List.length_map];exact HL.out.len) HA.out];rfl,HBE.out⟩
   ·have hd2:decide ((n:Int)>8)=true:=by simp;omega
    have HE1':=HE1;have HE2:Hid (decide (n≤8)=false):=decide_eq_false h2;go_wp2_with fail;refine HCN.out.mono ?_;rintro e w' ⟨rfl,rfl⟩;go_wp2_with fail;go_ret;exact⟨by rw[HV.out,HE1.out,HE2.out];rfl,HB0.out⟩
  ·have hd1:decide ((n0:Int)>32768)=true:=by simp;omega
   have HE1:Hid (decide (n0≤32768)=false):=decide_eq_false h1;go_wp2_with fail;refine HCN.out.mono ?_;rintro e w' ⟨rfl,rfl⟩;go_wp2_with fail;go_ret;exact⟨by rw[HV.out,HE1.out];rfl,HB0.out⟩
def ZV (L:List Pg) (y:List Int):Bool:=L.any fun z=>decide (idP z=y)
theorem QN {L:List Pg} {y:List Int} {z:Pg} (hz:z ∈ L) (e:idP z=y):ZV L y=true:=List.any_eq_true.2 ⟨z,hz,by simp[e]⟩
theorem VV {L:List Pg} {y:List Int} (h:∀ z ∈ L,idP z≠y):ZV L y=false:=List.any_eq_false.2 fun z hz=>by simp[h z hz]
theorem KK (sp:Option Addr) (n cap:Nat) (l:List Sg) (y:List Int) (w:World) (hl:SgsIn w w.heap.size sp n cap l) (hy:D32 y) (hn:n≤1000) :
 Calls Tryz.prog 36 #[.slice sp n cap,.agg (dv y)] w fun e w'=>∃ i:Int,e=.returned (.int .i64 i)∧decide (0≤i)=ZV (l.map pg) y∧Below w.heap.size w w':=by
 have HL:=zh hl;have HY:=zh hy;have HB:=zh ((Below.refl w.heap.size w).alloc zl (.cells (dv y) 77));have hr:(w.alloc (.cells (dv y) 77)).rangeAt w.heap.size 0 (y.map (Value.int .u8)):=mZ (pre:=[]) (post:=[]) (heap_alloc_new w _) (by simp) rfl;have HID:=zh (DV hy);clear hl hy
 go_enter Tryz.func36,Tryz.ntmps36
 go_wp2_with fail;generalize hw0:World.alloc w _=w0 at HB hr;have HYR:=zh hr;obtain⟨B,hBe⟩:∃ B,B=w0.heap.size:=⟨_,rfl⟩;have HLT:Hid (w.heap.size<B):=by show _<_;rw[hBe,←hw0];simp
 clear hr hw0
 go_loopw [5] (fun i wr=>∃ k:Nat,k≤n∧i=.int .i64 k∧Hid (∀ z ∈ (l.map pg).take k,idP z≠y)∧Hid (Below B w0 wr)) (fun i _=>n-(intOf i).toNat)
 case atStart=>exact⟨0,Nat.zero_le _,rfl,fun z hz=>(by simp at hz),Below.refl _ _⟩
 case round =>
  obtain⟨k,hk,rfl,HT,HBR⟩:=hrel;have HBW:=zh (HB.out.trans (HBR.out.mono (Nat.le_of_lt HLT.out)));have hszr:B≤wr.heap.size:=by have:=HBR.out.size;omega
  by_cases hlt:k<n
  ·have hd:decide ((k:Int)<(n:Int))=true:=by simp;omega
   obtain⟨bq,off,rfl,hbB,hcap,hr1⟩:=HL.out.cells zo;have hkl:k<l.length:=by rw[HL.out.len];exact hlt
   obtain⟨x,hx⟩:∃ x,l[k]? = some x:=⟨l[k],List.getElem?_eq_getElem hkl⟩;have HOX:=zh (HL.out.ok x (List.mem_of_getElem? hx));have HR:=zh (aB (hr1 k x hx) HBW.out hbB);have HYR2:Hid (wr.rangeAt w.heap.size 0 (y.map (Value.int .u8))):=aB HYR.out HBR.out HLT.out;have HIP:=zh (iG HOX.out);have HXX:Hid ((l.map pg)[k]? = some (pg x)):=by show _=_;rw[List.getElem?_map,hx];rfl
   have he:∀ w',(binOp .eql 77 (.agg (dv (idP (pg x)))) (.agg (y.map (Value.int .u8)).toArray)).run Tryz.prog w'=.ok (.bool (decide (idP (pg x)=y))) w':=eqlD (idP (pg x)) y (iU (pg x)).1 HY.out.1;obtain⟨c,hc⟩:∃ c,decide (idP (pg x)=y)=c:=⟨_,rfl⟩;rw[hc] at he;have HC:=zh hc;have HCI:Hid (∀ w',Calls Tryz.prog 37 #[.agg (sgP x).toArray] w' fun e w''=>e=.returned (.agg (dv (idP (pg x))))∧Below w'.heap.size w' w''):=fun w'=>oL x.h x.r w' HOX.out;generalize hu:idP (pg x)=u at *;have HU:=zh hu;clear hu;have p1:(0:Int)≤(k:Int):=by omega
   have p2:(k:Int)<(n:Int):=by omega
   have q1:IntKind.i64.wrap (k:Int)=(k:Int):=IntWalk.i64_in _ zo;have HBB:Hid (bq<B):=Nat.lt_trans hbB HLT.out;have AE:Hid (Below B wr wr):=Below.refl _ _;have hBk:B≤wr.heap.size:=hszr;clear hx hr1 hc hkl hbB HYR;have HYR:=HYR2;clear HYR2;go_wp2_with fail;refine wp_region_held_drew (S:=fun w'=>Below B wr w') (by kernel_rfl) AE.out.drew (fun hHeld=>?_);refine zv 0 rfl ?_;refine zv 1 rfl ?_;refine zv 2 rfl ?_;refine zv 3 rfl ?_;refine' zk 4 rfl (v:=_) (yieldsIf_load_mid (by rfl) _ _ rfl _ _ rfl _ _ ?hS4n5 Tryz.underlying44 rfl HIP.out) ?rest4n5
   case hS4n5 =>
    intro w' hSw;exact pL (aB HR.out hSw HBB.out)
   try simp only[Act.put,zu]
   refine' zk 6 rfl (v:=_) (yieldsIf_load_mid (by rfl) _ _ rfl _ _ rfl _ _ ?hS6n6 Tryz.underlying77 rfl HID.out) ?rest6n6
   case hS6n6 =>
    intro w' hSw;exact aB HYR.out hSw HLT.out
   try simp only[Act.put,zu]
   refine zr 5 rfl (fun K hK=>?_);go_simp
   with_reducible refine (HCI.out _).mono ?_
   rintro e v1 ⟨rfl,hb⟩;have fX:Hid (Below B wr v1):=(AE.out.drew).trans (hb.mono (by have:=((AE.out.drew)).size;have:=hBk;omega));clear hb;go_wp2_with fail;refine hK.out _ _ fX.out fun _=>?_;clear hK K
   try simp only[Act.put,zu]
   refine zv 7 rfl ?_;refine zd ?_ _;clear hHeld he;have aBw:Hid (Below B w0 v1):=HBR.out.trans fX.out
   cases c
   ·go_wp2_with fail;go_roundw
    case rel =>
     refine⟨k+1,by omega,by go_num,?_,aBw⟩;rw[List.take_add_one,HXX.out];intro z hz;rcases List.mem_append.1 hz with hz | hz
     ·exact HT.out z hz
     ·rw[List.mem_singleton.1 hz,HU.out];exact of_decide_eq_false HC.out
    case measure=>simp[intOf];omega
   ·go_wp2_with fail;go_ret;exact⟨(k:Int),rfl,by rw[decide_eq_true p1,QN (List.mem_of_getElem? HXX.out) (HU.out.trans (of_decide_eq_true HC.out))],HB.out.trans (aBw.out.mono (Nat.le_of_lt HLT.out))⟩
  ·obtain rfl:k=n:=by omega
   have hd:decide ((k:Int)<(k:Int))=false:=by simp
   have HTK:Hid ((l.map pg).take k=l.map pg):=by show _=_;rw[List.take_of_length_le];rw[List.length_map,HL.out.len];omega
   rw[HTK.out] at HT;go_wp2_with fail;go_ret;exact⟨-1,rfl,by rw[VV HT.out];rfl,HBW.out⟩
end Go.Proofs.YtaeobegaodhpcaaGreatDoor
