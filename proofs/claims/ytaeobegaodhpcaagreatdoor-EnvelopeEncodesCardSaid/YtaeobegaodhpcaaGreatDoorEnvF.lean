/-
  Envelopes: signatures in the order of their keys; the walks of slices.BinarySearchFunc at signatures, and of place (condition: the table of constants reads as it is laid).
-/
import Derived.Test.YtaeobegaodhpcaaGreatDoorZip
import Derived.Test.YtaeobegaodhpcaaGreatDoorQ19
set_option maxRecDepth 100000
set_option maxHeartbeats 8000000
namespace Go.Proofs.YtaeobegaodhpcaaGreatDoor
open Go.RowKit Go.Proofs.YtaeobegaodhpcaaGreatDoor.One
theorem EM:∀ (a b:List Int),(∀ x ∈ a,0≤x∧x<256)→(∀ x ∈ b,0≤x∧x<256)→a.length=b.length→(Lib.compareBytes (Lib.bytesOf a) (Lib.bytesOf b)=0↔a=b)
 | [],[],_,_,_=>⟨fun _=>rfl,fun _=>rfl⟩
 | [],y :: b,_,_,h=>by simp at h
 | x :: a,[],_,_,h=>by simp at h
 | x :: a, y :: b, ha, hb, h => by
   have ih:=EM a b (fun z hz=>ha z (by simp[hz])) (fun z hz=>hb z (by simp[hz])) (by simpa using h);have h1:=ha x (by simp);have h2:=hb y (by simp);have n1:(UInt8.ofNat x.toNat).toNat=x.toNat:=by simp;omega
   have n2:(UInt8.ofNat y.toNat).toNat=y.toNat:=by simp;omega
   have hlt:((UInt8.ofNat x.toNat)<(UInt8.ofNat y.toNat))↔x<y:=by rw[UInt8.lt_iff_toNat_lt,n1,n2];omega
   have hgt:((UInt8.ofNat y.toNat)<(UInt8.ofNat x.toNat))↔y<x:=by rw[UInt8.lt_iff_toNat_lt,n1,n2];omega
   show (if UInt8.ofNat x.toNat<UInt8.ofNat y.toNat then (-1:Int) else if UInt8.ofNat y.toNat<UInt8.ofNat x.toNat then 1 else Lib.compareBytes (Lib.bytesOf a) (Lib.bytesOf b))=0↔_;by_cases c1:x<y
   ·rw[if_pos (hlt.2 c1)];exact⟨fun h=>by omega,fun h=>by injection h with h _;omega⟩
   ·rw[if_neg (fun h=>c1 (hlt.1 h))];by_cases c2:y<x
    ·rw[if_pos (hgt.2 c2)];exact⟨fun h=>by omega,fun h=>by injection h with h _;omega⟩
    ·rw[if_neg (fun h=>c2 (hgt.1 h)),ih];have hxy:x=y:=by omega
     exact⟨fun h=>by rw[hxy,h],fun h=>by injection h⟩
theorem WM {a b:List Int} (ha:D32 a) (hb:D32 b):decide (IN a b=0)=decide (a=b) :=
 decide_eq_decide.2 (EM a b (fun x hx=>ha.2 x hx) (fun x hx=>hb.2 x hx) (by rw[ha.1,hb.1]))
theorem WK {a b:List Int} (ha:D32 a) (hb:D32 b):decide (IN a b<0)=dls a b:=vZ a b (fun x hx=>ha.2 x hx) (fun x hx=>hb.2 x hx)
def xS (L:List Pg):Prop:=L.Pairwise fun x y=>dls (idP x) (idP y)=true
def LoP (L:List Pg) (p:Pg) (i:Nat):Prop:=∀ m y,m<i→L[m]? = some y→dls (idP y) (idP p)=true
def HiP (L:List Pg) (p:Pg) (j:Nat):Prop:=∀ m y,j≤m→L[m]? = some y→dls (idP y) (idP p)=false
def OE (L:List Pg) (p:Pg) (k:Nat):Bool:=match L[k]? with
 | some y=>decide (idP y=idP p)
 | none=>false
theorem uY {L:List Pg} (h:xS L) {i j:Nat} (hij:i<j) {x y:Pg} (hx:L[i]? = some x) (hy:L[j]? = some y):dls (idP x) (idP y)=true:=by
 obtain⟨hi,ex⟩:=List.getElem?_eq_some_iff.1 hx;obtain⟨hj,ey⟩:=List.getElem?_eq_some_iff.1 hy;have:=(List.pairwise_iff_getElem.1 h) i j hi hj hij;rw[ex,ey] at this;exact this
theorem LoP.up {L:List Pg} {p x:Pg} {h:Nat} (hs:xS L) (hx:L[h]? = some x) (hc:dls (idP x) (idP p)=true):LoP L p (h+1):=fun m y hm hy=>by
 by_cases e:m=h
 ·subst e;rw[hx] at hy;injection hy with hy;rw[←hy];exact hc
 ·exact kO (uY hs zo hy hx) hc
theorem HiP.dn {L:List Pg} {p x:Pg} {h:Nat} (hs:xS L) (hx:L[h]? = some x) (hc:dls (idP x) (idP p)=false):HiP L p h:=fun m y hm hy=>by
 by_cases e:m=h
 ·subst e;rw[hx] at hy;injection hy with hy;rw[←hy];exact hc
 ·rw[Bool.eq_false_iff];intro hk;rw[kO (uY hs zo hx hy) hk] at hc;cases hc
theorem SF {L:List Pg} (h:vsB L=true) {j:Nat} {x y:Pg} (hy:L[j]? = some y) (hx:L[j+1]? = some x):dls (idP y) (idP x)=true:=by
 unfold vsB at h;have h1:=List.all_eq_true.1 h (j+1) (List.mem_range.2 (List.getElem?_eq_some_iff.1 hx).1);unfold tF at h1;simp only[hx,hy,Bool.and_eq_true] at h1;exact h1.2
theorem uS {L:List Pg} (h:vsB L=true):xS L:=by
 have hb:∀ d i x y,L[i]? = some x→L[i+1+d]? = some y→dls (idP x) (idP y)=true:=by
  intro d
  induction d with
  | zero=>intro i x y hx hy;exact SF h hx hy
  | succ d ih =>
    intro i x y hx hy;have hlt:=(List.getElem?_eq_some_iff.1 hy).1;obtain⟨z,hz⟩:∃ z,L[i+1+d]? = some z:=⟨L[i+1+d]'(by omega),List.getElem?_eq_getElem _⟩;exact kO (ih i x z hx hz) (SF h hz hy)
 unfold xS;rw[List.pairwise_iff_getElem];intro i j hi hj hij;exact hb (j-i-1) i _ _ (List.getElem?_eq_getElem hi) (by rw[show i+1+(j-i-1)=j by omega];exact List.getElem?_eq_getElem hj)
theorem IY {t:ByteArray} {b:List UInt8} {L:List Pg} (h:fM t b L=true):vsB L=true:=by
 unfold fM at h;simp only[Bool.and_eq_true,decide_eq_true_eq] at h;exact h.2.2.2
theorem DE {w:World} {B:Nat} {sp:Option Addr} {n cap:Nat} {l:List Sg} (h:SgsIn w B sp n cap l) {k:Nat} (hk:k<n):∃ (x:Sg) (b off:Nat),l[k]? = some x∧OkG x∧SgD w B x∧sp=some ⟨b,off,none⟩∧b<B∧n≤cap∧w.rangeAt b (off+k*20) (aX x):=by
 obtain⟨b,off,e,hb,hc,hr⟩:=h.cells zo;have hkl:k<l.length:=by rw[h.len];exact hk
 exact⟨l[k],b,off,List.getElem?_eq_getElem hkl,h.ok _ (List.getElem_mem hkl),h.dat _ (List.getElem_mem hkl),e,hb,hc,hr k _ (List.getElem?_eq_getElem hkl)⟩
theorem DP {l:List Sg} {k:Nat} {x:Sg} (h:l[k]? = some x):(l.map pg)[k]? = some (pg x):=by rw[List.getElem?_map,h];rfl
theorem WU (sp:Option Addr) (n cap:Nat) (l:List Sg) (z:Sg) (w:World) (hl:SgsIn w w.heap.size sp n cap l) (hs:xS (l.map pg)) (hz:OkG z) (hn:n≤1000000) (hk:KayIn w) (hk0:4<w.heap.size) :
 Calls Tryz.prog 97 #[.slice sp n cap,.agg (aX z).toArray,.func (.func 68) #[] #[]] w fun e w'=>∃ k:Nat,k≤n∧e=.returned (.tuple #[.int .i64 k,.bool (OE (l.map pg) (pg z) k)])∧LoP (l.map pg) (pg z) k∧HiP (l.map pg) (pg z) k∧Below w.heap.size w w':=by
 have HP:=zh hl;have HS:=zh hs;have HZO:=zh hz;have HK:=zh hk;have HIX:=zh (gG hz);have HNW:=zh (GB.new w z).all;have HBZ:=zh ((Below.refl w.heap.size w).alloc zl (.cells (aX z).toArray 50));have HSZ:=zh (show w.heap.size+1≤(w.alloc (.cells (aX z).toArray 50)).heap.size by simp);clear hl hs hz hk
 go_enter Tryz.func97,Tryz.ntmps97
 go_wp2_with fail;generalize World.alloc w (.cells (aX z).toArray 50)=wz at *
 go_loopw [9,10] (fun v9 v10 wr=>∃ i j:Nat,v9=.int .i64 i∧v10=.int .i64 j∧i≤j∧j≤n∧Hid (LoP (l.map pg) (pg z) i∧HiP (l.map pg) (pg z) j∧Below (w.heap.size+1) wz wr)) (fun v9 v10 _=>(intOf v10).toNat-(intOf v9).toNat)
 case atStart=>exact⟨0,n,rfl,rfl,Nat.zero_le _,Nat.le_refl _,fun m y h=>absurd h zo,fun m y h hy=>absurd (List.getElem?_eq_some_iff.1 hy).1 (by have:=HP.out.len;rw[List.length_map];omega),Below.refl _ _⟩
 case round =>
  obtain⟨i,j,rfl,rfl,hij,hjn,H⟩:=hrel;have HLO:=zh H.out.1;have HHI:=zh H.out.2.1;have HB:=zh H.out.2.2;clear H;by_cases hlt:i<j
  ·have hd1:decide ((i:Int)<(j:Int))=true:=by simp;omega
   obtain⟨h,hm1,hm2⟩:∃ h:Nat,2*h≤i+j∧i+j≤2*h+1:=⟨(i+j) / 2,by omega,by omega⟩;have q5:((i:Int)+(j:Int)) / 2=(h:Int):=by omega
   have p1:(0:Int)≤(h:Int):=by omega
   have p2:(h:Int)<(n:Int):=by omega
   obtain⟨x,xb,xoff,hxk,hx32,hxd,rfl,hxb,hxc,hxr⟩:=DE HP.out (show h<n by omega);have HXK:=zh (DP hxk);have HX32:=zh hx32;have HXR:=zh hxr;have HXB:=zh hxb;have HIY:=zh (gG hx32);have hlt0:=WK (iU (pg x)) (iU (pg z));clear hxk hx32 hxr hxb hxd;have HCC:Hid (∀ w',Below (w.heap.size+1) wz w'→Calls Tryz.prog 68 #[.agg (aX x).toArray,.agg (aX z).toArray] w' fun e w''=>e=.returned (.int .i64 (IN (idP (pg x)) (idP (pg z))))∧Below w'.heap.size w' w''):=fun w' hb=>gL x z w' HX32.out HZO.out (HK.out.below (HBZ.out.trans (hb.mono (Nat.le_succ _))) hk0) (by have:=hb.size;have:=HSZ.out;omega);generalize IN (idP (pg x)) (idP (pg z))=q at *
   cases hc:dls (idP (pg x)) (idP (pg z))
   ·have hlt1:=hlt0;rw[hc] at hlt1;go_wp2_with fail;refine wp_region_held_drew (S:=fun w'=>Below (w.heap.size+1) wz w') (by kernel_rfl) HB.out.drew (fun hHeld=>?_);refine zv 0 rfl ?_;refine zv 1 rfl ?_;refine zv 2 rfl ?_;refine zv 3 rfl ?_;refine' zk 4 rfl (v:=_) (yieldsIf_load_mid (by rfl) _ _ rfl _ _ rfl _ _ ?hS4n36 Tryz.underlying50 rfl HIY.out) ?rest4n36
    case hS4n36 =>
     intro w' hSw;exact (aB HXR.out (HBZ.out.trans (hSw.mono (Nat.le_succ _))) HXB.out)
    try simp only[Act.put,zu]
    refine' zk 5 rfl (v:=_) (yieldsIf_load_mid (by rfl) _ _ rfl _ _ rfl _ _ ?hS5n37 Tryz.underlying50 rfl HIX.out) ?rest5n37
    case hS5n37 =>
     intro w' hSw;exact (aB HNW.out hSw (Nat.lt_succ_self _))
    try simp only[Act.put,zu]
    refine zr 6 rfl (fun K hK=>?_);go_simp
    with_reducible refine (HCC.out _ HB.out.drew).mono ?_
    rintro e wd ⟨rfl,hb3⟩;have HBD:=zh (HB.out.drew.trans (hb3.mono (Nat.le_trans HSZ.out HB.out.size)));go_wp2_with fail;refine hK.out _ _ HBD.out fun _=>?_;clear hK K
    try simp only[Act.put,zu]
    refine zv 7 rfl ?_;refine zd ?_ _;clear hHeld;go_wp2_with fail;go_roundw
    case rel=>exact⟨i,h,rfl,rfl,by omega,by omega,HLO.out,HiP.dn HS.out HXK.out hc,HBD.out⟩
    case measure=>simp[intOf];omega
   ·have hlt1:=hlt0;rw[hc] at hlt1;go_wp2_with fail;refine wp_region_held_drew (S:=fun w'=>Below (w.heap.size+1) wz w') (by kernel_rfl) HB.out.drew (fun hHeld=>?_);refine zv 0 rfl ?_;refine zv 1 rfl ?_;refine zv 2 rfl ?_;refine zv 3 rfl ?_;refine' zk 4 rfl (v:=_) (yieldsIf_load_mid (by rfl) _ _ rfl _ _ rfl _ _ ?hS4n43 Tryz.underlying50 rfl HIY.out) ?rest4n43
    case hS4n43 =>
     intro w' hSw;exact (aB HXR.out (HBZ.out.trans (hSw.mono (Nat.le_succ _))) HXB.out)
    try simp only[Act.put,zu]
    refine' zk 5 rfl (v:=_) (yieldsIf_load_mid (by rfl) _ _ rfl _ _ rfl _ _ ?hS5n44 Tryz.underlying50 rfl HIX.out) ?rest5n44
    case hS5n44 =>
     intro w' hSw;exact (aB HNW.out hSw (Nat.lt_succ_self _))
    try simp only[Act.put,zu]
    refine zr 6 rfl (fun K hK=>?_);go_simp
    with_reducible refine (HCC.out _ HB.out.drew).mono ?_
    rintro e wd ⟨rfl,hb3⟩;have HBD:=zh (HB.out.drew.trans (hb3.mono (Nat.le_trans HSZ.out HB.out.size)));go_wp2_with fail;refine hK.out _ _ HBD.out fun _=>?_;clear hK K
    try simp only[Act.put,zu]
    refine zv 7 rfl ?_;refine zd ?_ _;clear hHeld;go_wp2_with fail;go_roundw
    case rel=>exact⟨h+1,j,by go_num,rfl,by omega,hjn,LoP.up HS.out HXK.out hc,HHI.out,HBD.out⟩
    case measure=>simp[intOf];omega
  ·have hd1:decide ((i:Int)<(j:Int))=false:=by simp;omega
   obtain rfl:i=j:=by omega
   by_cases hin:i<n
   ·have hd2:decide ((i:Int)<(n:Int))=true:=by simp;omega
    have p1:(0:Int)≤(i:Int):=by omega
    have p2:(i:Int)<(n:Int):=by omega
    obtain⟨x,xb,xoff,hxk,hx32,hxd,rfl,hxb,hxc,hxr⟩:=DE HP.out hin;have HXR:=zh hxr;have HXB:=zh hxb;have HIY:=zh (gG hx32);have HF:Hid (OE (l.map pg) (pg z) i=decide (idP (pg x)=idP (pg z))):=by show _=_;unfold OE;rw[DP hxk]
    have hz0:=WM (iU (pg x)) (iU (pg z));rw[←HF.out] at hz0;have hz:(IN (idP (pg x)) (idP (pg z)) == 0)=OE (l.map pg) (pg z) i:=by rw[←hz0];rfl
    have HX32:=zh hx32;have HCC:Hid (∀ w',Below (w.heap.size+1) wz w'→Calls Tryz.prog 68 #[.agg (aX x).toArray,.agg (aX z).toArray] w' fun e w''=>e=.returned (.int .i64 (IN (idP (pg x)) (idP (pg z))))∧Below w'.heap.size w' w''):=fun w' hb=>gL x z w' HX32.out HZO.out (HK.out.below (HBZ.out.trans (hb.mono (Nat.le_succ _))) hk0) (by have:=hb.size;have:=HSZ.out;omega);clear hxk hx32 hxr hxb hxd hz0 HF;generalize IN (idP (pg x)) (idP (pg z))=q at *;obtain⟨f,hf⟩:∃ f,OE (l.map pg) (pg z) i=f:=⟨_,rfl⟩;rw[hf] at hz;have HF:=zh hf;clear hf;go_wp2_with fail;refine wp_region_held_drew (S:=fun w'=>Below (w.heap.size+1) wz w') (by kernel_rfl) HB.out.drew (fun hHeld=>?_);refine zv 0 rfl ?_;refine zv 1 rfl ?_;refine zv 2 rfl ?_;refine zv 3 rfl ?_;refine zv 4 rfl ?_;refine zv 5 rfl ?_;refine zv 6 rfl ?_;refine zv 7 rfl ?_;refine zv 8 rfl ?_;refine' zk 9 rfl (v:=_) (yieldsIf_load_mid (by rfl) _ _ rfl _ _ rfl _ _ ?hS9n10 Tryz.underlying50 rfl HIY.out) ?rest9n10
    case hS9n10 =>
     intro w' hSw;exact (aB HXR.out (HBZ.out.trans (hSw.mono (Nat.le_succ _))) HXB.out)
    try simp only[Act.put,zu]
    refine' zk 10 rfl (v:=_) (yieldsIf_load_mid (by rfl) _ _ rfl _ _ rfl _ _ ?hS10n11 Tryz.underlying50 rfl HIX.out) ?rest10n11
    case hS10n11 =>
     intro w' hSw;exact (aB HNW.out hSw (Nat.lt_succ_self _))
    try simp only[Act.put,zu]
    refine zr 11 rfl (fun K hK=>?_);go_simp
    with_reducible refine (HCC.out _ HB.out.drew).mono ?_
    rintro e wd ⟨rfl,hb3⟩;have HBD:=zh (HB.out.drew.trans (hb3.mono (Nat.le_trans HSZ.out HB.out.size)));go_wp2_with fail;refine hK.out _ _ HBD.out fun _=>?_;clear hK K
    try simp only[Act.put,zu]
    refine zv 12 rfl ?_;refine zv 13 rfl ?_;refine zv 14 rfl ?_;refine zv 15 rfl ?_;refine zd ?_ _;clear hHeld;go_wp2_with fail;go_ret2;exact⟨i,hjn,by rw[HF.out];rfl,HLO.out,HHI.out,HBZ.out.trans (HBD.out.mono (Nat.le_succ _))⟩
   ·obtain rfl:i=n:=by omega
    have hd2:decide ((i:Int)<(i:Int))=false:=by simp
    have HF:Hid (OE (l.map pg) (pg z) i=false):=by show _=_;unfold OE;rw[List.getElem?_eq_none (by rw[List.length_map,HP.out.len];omega)]
    go_wp2_with fail;refine wp_region_held_drew (S:=fun w'=>Below (w.heap.size+1) wz w') (by kernel_rfl) HB.out.drew (fun hHeld=>?_);refine zv 0 rfl ?_;refine zv 1 rfl ?_;refine zv 2 rfl ?_;refine zv 3 rfl ?_;refine zv 4 rfl ?_;refine zk 5 rfl (v:=undef) (.inr ⟨by rfl,rfl⟩) ?_;try simp only[Act.put,zu]
    refine zk 6 rfl (v:=undef) (.inr ⟨by rfl,rfl⟩) ?_;try simp only[Act.put,zu]
    refine zk 7 rfl (v:=undef) (.inr ⟨by rfl,rfl⟩) ?_;try simp only[Act.put,zu]
    refine zk 8 rfl (v:=undef) (.inr ⟨by rfl,rfl⟩) ?_;try simp only[Act.put,zu]
    refine zk 9 rfl (v:=undef) (.inr ⟨by rfl,rfl⟩) ?_;try simp only[Act.put,zu]
    refine zk 10 rfl (v:=undef) (.inr ⟨by rfl,rfl⟩) ?_;try simp only[Act.put,zu]
    refine zk 11 rfl (v:=undef) (.inr ⟨by rfl,rfl⟩) ?_;try simp only[Act.put,zu]
    refine zk 12 rfl (v:=undef) (.inr ⟨by rfl,rfl⟩) ?_;try simp only[Act.put,zu]
    refine zv 13 rfl ?_;refine zv 14 rfl ?_;refine zv 15 rfl ?_;refine zd ?_ _;clear hHeld;go_wp2_with fail;go_ret2;exact⟨i,hjn,by rw[HF.out];rfl,HLO.out,HHI.out,HBZ.out.trans (HB.out.drew.mono (Nat.le_succ _))⟩
theorem KS (sp:Option Addr) (n cap:Nat) (l:List Sg) (z:Sg) (w:World) (hl:SgsIn w w.heap.size sp n cap l) (hs:xS (l.map pg)) (hz:OkG z) (hn:n≤1000000) (hk:KayIn w) (hk0:4<w.heap.size) :
 Calls Tryz.prog 60 #[.slice sp n cap,.agg (aX z).toArray] w fun e w'=>∃ k:Nat,k≤n∧e=.returned (.tuple #[.int .i64 k,.bool (OE (l.map pg) (pg z) k)])∧LoP (l.map pg) (pg z) k∧HiP (l.map pg) (pg z) k∧Below w.heap.size w w':=by
 have HL:=zh hl;have HS:=zh hs;have HZO:=zh hz;have HK:=zh hk;have HIX:=zh (aS hz);have HNW:=zh (GB.new w z);have HBZ:=zh ((Below.refl w.heap.size w).alloc zl (.cells (aX z).toArray 50));clear hl hs hz hk
 go_enter Tryz.func60,Tryz.ntmps60
 go_upto_region 1 with fail
 generalize World.alloc w (.cells (aX z).toArray 50)=wz at *;have HCB:=zh (WU sp n cap l z wz (HL.out.up HBZ.out zl) HS.out HZO.out hn (HK.out.below HBZ.out hk0) (by have:=HBZ.out.size;omega))
 go_wp2_with (refine wpList_load_row rfl 50 _ rfl w.heap.size rfl 50 _ (0,0) _ HNW.out Tryz.underlying50 rfl HIX.out ?_)
 refine HCB.out.mono ?_;rintro e w1 ⟨k,hk,rfl,hlo,hhi,hb⟩;have HLO:=zh hlo;have HHI:=zh hhi;have HB:=zh hb;clear hlo hhi hb;go_wp2_with fail;go_ret2;exact⟨k,hk,rfl,HLO.out,HHI.out,HBZ.out.trans (HB.out.mono HBZ.out.size)⟩
end Go.Proofs.YtaeobegaodhpcaaGreatDoor
