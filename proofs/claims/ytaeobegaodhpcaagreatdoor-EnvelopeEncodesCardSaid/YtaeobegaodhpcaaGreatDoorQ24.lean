/-
  The walks of the reference's ParseHalf and Parse (condition: the string's length is an int).
-/
import Derived.Test.YtaeobegaodhpcaaGreatDoorZip
import Derived.Test.YtaeobegaodhpcaaGreatDoorQ23
set_option maxRecDepth 100000
set_option maxHeartbeats 8000000
namespace Go.Proofs.YtaeobegaodhpcaaGreatDoor
open Go.RowKit
theorem GC (l:List UInt8) (n:Nat):(pby l n).length=n:=by unfold pby;split <;> simp[eN]
def xH (L:List Int) (n k:Nat):List Int:=L.take k++List.replicate (n-k) 0
theorem IV (L:List Int) (n:Nat):xH L n 0=List.replicate n 0:=by simp[xH]
theorem rA {L:List Int} {n k:Nat} (hk:k≤n) (hl:k≤L.length):(xH L n k).length=n:=by
 unfold xH;rw[List.length_append,List.length_take,List.length_replicate];omega
theorem ON {L:List Int} {n k:Nat} (hk:k<n) (hl:k<L.length):(xH L n k).set k (L.getD k 0)=xH L n (k+1):=by
 unfold xH;rw[List.set_append_right _ _ (by rw[List.length_take];omega),List.length_take,show min k L.length=k by omega,Nat.sub_self,show n-k=(n-(k+1))+1 by omega,List.replicate_succ,List.take_succ_eq_append_getElem hl,List.append_assoc,List.getD_eq_getElem?_getD,List.getElem?_eq_getElem hl];rfl
theorem IW {L:List Int} {n:Nat} (hl:L.length=n):xH L n n=L:=by
 unfold xH;rw[Nat.sub_self,List.take_of_length_le zo];simp
theorem GK {a w:World} {g:Nat} (h:a.grownBy w (some g)) (i:Nat) (u:Value):a.grownBy (w.setCell ⟨g,i,none⟩ u) (some g) :=
 ⟨h.os,h.tape,h.output,by simpa [World.setCell] using h.size,fun k hk hne=>(Below.heap_setCell w ⟨g,i,none⟩ u k (by intro e;exact hne (by rw[e]))).trans (h.block k hk hne)⟩
theorem jY (s:ByteArray) (w:World) :
 Calls Tryz.prog 54 #[.string s] w fun e w'=>e=.returned (.tuple #[.agg ((pby s.data.toList 16).map (Value.int .u8)).toArray,.bool (pok s.data.toList 16)])∧Below w.heap.size w w':=by
 have HR:=zh (mC w 42 .u8 (List.replicate 16 0));have HB:=zh (aA w (.cells ((List.replicate 16 0).map (Value.int .u8)).toArray 42));have HSZ:=zh (aF w (.cells ((List.replicate 16 0).map (Value.int .u8)).toArray 42));have hbz:=bzH
 go_enter Tryz.func54,Tryz.ntmps54
 go_wp2_with fail;generalize hw0:World.alloc w _=w0;have hr0:RowIn w0 w.heap.size 42 .u8 (List.replicate 16 0):=by rw[←hw0];exact HR.out
 have hb0:Below w.heap.size w w0:=by rw[←hw0];exact HB.out
 have hs0:w0.heap.size=w.heap.size+1:=by rw[←hw0];exact HSZ.out
 clear hw0 HR HB HSZ;have hr1:RowIn (w0.alloc (.cells (Array.replicate 16 (Value.int .u8 0)) 42)) w0.heap.size 42 .u8 (List.replicate 16 0):=mC w0 42 .u8 (List.replicate 16 0);have hb1:=aA w0 (.cells (Array.replicate 16 (Value.int .u8 0)) 42);have hz1:(w0.alloc (.cells (Array.replicate 16 (Value.int .u8 0)) 42)).heap.size=w0.heap.size+1:=by simp
 generalize hw1:World.alloc w0 _=w1;have hr1':RowIn w1 (w.heap.size+1) 42 .u8 (List.replicate 16 0):=by rw[←hw1,←hs0];exact hr1
 have hb1':Below w0.heap.size w0 w1:=by rw[←hw1];exact hb1
 have hz1':w1.heap.size=w.heap.size+1+1:=by rw[←hw1,←hs0];exact hz1
 clear hw1 hr1 hb1 hz1;have hr01:=hr0.below hb1' zo;have hbe1:=hb0.trans (hb1'.mono zo);refine (yI s 16 w1 zo).mono ?_;rintro e w2 ⟨sp,cap,rfl,hsrc,hb2,hab⟩;have HR2:=zh (hr1'.below hb2 zo);have HR0:=zh (hr01.below hb2 zo);have HBE:Hid (Bw w w2):=hbe1.trans (hb2.mono zo);have hz2:w.heap.size+1+1≤w2.heap.size:=by have:=hb2.size;omega
 have hpl:pby s.data.toList 16=xH (if pok s.data.toList 16=true then hbs s.data.toList 16 else []) 16 (if pok s.data.toList 16=true then 16 else 0):=by
  unfold pby
  split
  ·rw[IW (eN _ _)]
  ·rfl
 have hN:(if pok s.data.toList 16=true then 16 else 0)≤16:=by split <;> omega
 obtain⟨N,hNe⟩:∃ N,(if pok s.data.toList 16=true then 16 else 0)=N:=⟨_,rfl⟩;obtain⟨L,hLe⟩:∃ L,(if pok s.data.toList 16=true then hbs s.data.toList 16 else [])=L:=⟨_,rfl⟩;rw[hNe] at hpl hN hsrc ⊢;rw[hLe] at hpl hsrc;obtain⟨ok,hok⟩:∃ b,pok s.data.toList 16=b:=⟨_,rfl⟩;rw[hok];have HPL:=zh hpl;have HOK:=zh hok;have xD:=zh hsrc;have HLL:=zh hsrc.len;have HAB:Hid (∀ a,sp=some a→w.heap.size+1+1≤a.block):=fun a ha=>by have:=hab a ha;omega
 have HR20:Hid (RowIn w2 (w.heap.size+1) 42 .u8 (xH L 16 0)):=by show RowIn _ _ _ _ _;rw[IV];exact HR2.out
 clear hNe hLe hok hpl hsrc hab hb2 hr01 hbe1 hr0 hb0 hs0 hr1' hb1' hz1' HR2;go_wp2_with fail
 go_loopw [7] (fun i wr=>∃ k:Nat,k≤N∧i=.int .i64 k∧Hid (RowIn wr (w.heap.size+1) 42 .u8 (xH L 16 k))∧Hid (w2.grownBy wr (some (w.heap.size+1)))) (fun i _=>N-(intOf i).toNat)
 case atStart=>exact⟨0,Nat.zero_le _,rfl,HR20.out,World.grownBy.refl _ _⟩
 case round =>
  clear HR20;obtain⟨k,hk,rfl,hrow,hgr⟩:=hrel;have hgz:=hgr.out.size;by_cases hlt:k<N
  ·have hd:decide ((k:Int)<(N:Int))=true:=by simp;omega
   obtain⟨bb,off,rfl,hbb,hcap,hc⟩:=xD.out.cells zo;have hne:=HAB.out _ rfl;have c1:=(World.cell?_of_block (a:=⟨bb,off+k,none⟩) (hgr.out.block bb hbb (by intro e;have e':=Option.some.inj e;have hne':w.heap.size+1+1≤bb:=hne;omega))).trans (hc k hlt);have hwl:(xH L 16 k).length=16:=rA zo (by rw[HLL.out];omega);have c2:=hrow.out.get k (by rw[hwl];omega);have f2:=hrow.out.free k;obtain⟨y,hy⟩:∃ y,(xH L 16 k).getD k 0=y:=⟨_,rfl⟩;rw[hy] at c2;have hst:=ON (L:=L) (n:=16) (k:=k) zo (by rw[HLL.out];exact hlt);have p1:(0:Int)≤(k:Int):=by omega
   have p2:(k:Int)<(N:Int):=by omega
   have p3:(k:Int)<16:=by omega
   obtain⟨x,hx⟩:∃ x,L.getD k 0=x:=⟨_,rfl⟩;rw[hx] at c1 hst;have HE:Hid (RowIn (wr.setCell ⟨w.heap.size+1,k,none⟩ (.int .u8 x)) (w.heap.size+1) 42 .u8 (xH L 16 (k+1))∧w2.grownBy (wr.setCell ⟨w.heap.size+1,k,none⟩ (.int .u8 x)) (some (w.heap.size+1))):=by
    have h1:=hrow.out.put k x;rw[hst] at h1;exact⟨h1,GK hgr.out _ _⟩
   clear hne hc hwl hy hst hx hrow hgr hbz;go_wp2_with fail;go_roundw
   case rel=>exact⟨k+1,by omega,by go_num,HE.out.1,HE.out.2⟩
   case measure=>simp[intOf];omega
  ·obtain rfl:N=k:=by omega
   have hd:decide ((N:Int)<(N:Int))=false:=by simp
   have hwl:(xH L 16 N).length=16:=rA zo (by rw[HLL.out];exact Nat.le_refl _);have hpl:=HPL.out;have HR9:=zh (HR0.out.grown hgr.out zo);have HB9:Hid (Bw w wr):=HBE.out.trans ((aU hgr.out zo).mono zo);obtain⟨M,hM⟩:∃ M,xH L 16 N=M:=⟨_,rfl⟩;rw[hM] at hrow hwl hpl;have HPL2:=zh hpl;have HI:=zh (oK M hwl);have HO:=zh (aW .u8 M);have HS:=zh (yB (List.replicate 16 0) M (by rw[hwl];simp));clear hM hwl hpl HPL hgr hbz
   go_wp2_with (first
    | (refine wpList_load_row rfl 42 _ rfl (w.heap.size+1) rfl 42 _ (0,0) _ hrow.out Tryz.underlying42 rfl HI.out ?_)
    | (refine wpList_store_row rfl 42 _ _ rfl w.heap.size _ rfl rfl 42 _ HR9.out HI.out HS.out HO.out ?_))
   exact bodyPost_ret (gE (P:=Tryz.prog) rfl _ _ w.heap.size 42 _ (0,0) _ rfl (HR9.out.setRow _) Tryz.underlying42 rfl HI.out) rfl ⟨by rw[HPL2.out,HOK.out];rfl,below_setRow HB9.out zl _⟩
theorem PS {l:List UInt8} (h:13<l.length):pnk l=false∧pnv l=0:=by
 by_cases hz:lz l=true
 ·exact nA (.inr (.inl hz))
 ·by_cases hd:l.all isD=true
  ·have h0:l≠[]:=fun e=>by rw[e] at h;exact absurd h (by decide)
   have hh:l.head? ≠ some 48:=fun e=>hz (by unfold lz;rw[e,decide_eq_true rfl,decide_eq_true zo];rfl);have h1:=OQ hd h0 hh;have h2:10 ^ 13≤10 ^ (l.length-1):=Nat.pow_le_pow_right zo zo;exact nA (.inr (.inr (.inr zo)))
  ·exact nA (.inr (.inr (.inl (by simpa using hd))))
theorem gU (s:ByteArray) (w:World) :
 Calls Tryz.prog 53 #[.string s] w fun e w'=>e=.returned (.tuple #[.int .i64 (pnv s.data.toList),.bool (pnk s.data.toList)])∧w=w':=by
 by_cases he:s.size=0
 ·have hl:s.data.toList=[]:=List.eq_nil_of_length_eq_zero (by rw[←Lib.size_eq];exact he);have HN:=zh (nA (l:=s.data.toList) (.inl hl));have hl2:s.toList=[]:=by rw[Lib.toList_data];exact hl
  clear hl he
  go_enter Tryz.func53,Tryz.ntmps53
  go_wp2_with fail;go_ret2;exact⟨by rw[HN.out.1,HN.out.2];rfl,rfl⟩
 have hne:s.data.toList≠[]:=fun h=>he (by rw[Lib.size_eq,h];rfl);have hl:(s.toList == [])=false:=by rw[Lib.toList_data,beq_eq_false_iff_ne];exact hne
 have hl2:¬ s.toList=[]:=by simpa using hl
 by_cases h13:13<s.size
 ·have HN:=zh (PS (l:=s.data.toList) (by rw[←Lib.size_eq];exact h13));have hd:decide ((s.size:Int)>13)=true:=by simp;omega
  clear hne he
  go_enter Tryz.func53,Tryz.ntmps53
  go_wp2_with fail;go_ret2;exact⟨by rw[HN.out.1,HN.out.2];rfl,rfl⟩
 have hd13:decide ((s.size:Int)>13)=false:=by simp;omega
 have h0:0<s.size:=by omega
 have p0:(0:Int)<(s.size:Int):=by omega
 have hh:=lG s 0 h0;have hhd:s.data.toList.head? = some s[0]:=by rw[←hh,List.head?_eq_getElem?]
 have hcs:(((s[0].toNat:Int) == 48)=true∧decide ((s.size:Int)>1)=true∧lz s.data.toList=true)∨(((s[0].toNat:Int) == 48)=true∧decide ((s.size:Int)>1)=false∧lz s.data.toList=false)∨(((s[0].toNat:Int) == 48)=false∧lz s.data.toList=false):=by
  have hsz:=Lib.size_eq s;by_cases h:s[0]=48
  ·have e1:((s[0].toNat:Int) == 48)=true:=by rw[h];rfl
   by_cases h2:1<s.size
   ·exact .inl ⟨e1,by simp;omega,by unfold lz;rw[hhd,h,decide_eq_true rfl,decide_eq_true zo];rfl⟩
   ·exact .inr (.inl ⟨e1,by simp;omega,by unfold lz;rw[decide_eq_false (p:=1<_) zo,Bool.and_false]⟩)
  ·refine .inr (.inr ⟨?_,?_⟩)
   ·rw[beq_eq_false_iff_ne];intro e;apply h;apply UInt8.toNat_inj.1;show s[0].toNat=48;omega
   ·unfold lz;rw[hhd,decide_eq_false (fun e=>h (by simpa using e))];rfl
 have HH:=zh hne;clear hh hhd hne;rcases hcs with ⟨t1,t2,hz⟩ | hcs
 ·have HN:=zh (nA (l:=s.data.toList) (.inr (.inl hz)));clear hz
  go_enter Tryz.func53,Tryz.ntmps53
  go_wp2_with fail;go_ret2;exact⟨by rw[HN.out.1,HN.out.2];rfl,rfl⟩
 ·have hz:lz s.data.toList=false:=by rcases hcs with ⟨_,_,h⟩ | ⟨_,h⟩ <;> exact h
  have HZ:=zh hz;have hcs:(((s[0].toNat:Int) == 48)=true∧decide ((s.size:Int)>1)=false)∨((s[0].toNat:Int) == 48)=false:=by
   rcases hcs with ⟨h1,h2,_⟩ | ⟨h1,_⟩
   ·exact .inl ⟨h1,h2⟩
   ·exact .inr h1
  have HPN:Hid (∀ h:s.data.toList.all isD=false∨1099511627776<pG s.data.toList,pnk s.data.toList=false∧pnv s.data.toList=0):=fun h=>nA (.inr (.inr h));have HPY:Hid (∀ (h1:s.data.toList.all isD=true) (h2:pG s.data.toList≤1099511627776),pnk s.data.toList=true∧pnv s.data.toList=(pG s.data.toList:Int)):=fun h1 h2=>KQ HH.out HZ.out h1 h2;have HLS:=zh (Lib.size_eq s);clear hz;rcases hcs with ⟨t1,t3⟩ | t1
  all_goals
   go_enter Tryz.func53,Tryz.ntmps53
   go_wp2_with fail
   go_loopw [4,5] (fun v i wr=>∃ (k V:Nat),k≤s.size∧i=.int .i64 k∧v=.int .i64 V∧V<10000000000000∧Hid (V=pG (s.data.toList.take k))∧Hid ((s.data.toList.take k).all isD=true)∧Hid (wr=w)) (fun _ i _=>s.size-(intOf i).toNat)
   case atStart=>exact⟨0,0,Nat.zero_le _,rfl,rfl,by omega,rfl,rfl,rfl⟩
   case round =>
    obtain⟨k,V,hk,rfl,rfl,hV,HV,HA,hw⟩:=hrel;obtain rfl:=hw.out;clear hw;by_cases hlt:k<s.size
    ·have hd:decide ((k:Int)<(s.size:Int))=true:=by simp;omega
     have p1:(0:Int)≤(k:Int):=by omega
     have p2:(k:Int)<(s.size:Int):=by omega
     have HG:=zh (lG s k hlt)
     cases hc:isD s[k]
     ·have HN:=zh (HPN.out (.inl (sG HG.out hc)));have hcs2:decide ((s[k].toNat:Int)<48)=true∨(decide ((s[k].toNat:Int)<48)=false∧decide ((s[k].toNat:Int)>57)=true):=by
       unfold isD at hc;by_cases h1:s[k].toNat<48
       ·exact .inl (by simp;omega)
       ·refine .inr ⟨by simp;omega,?_⟩;rw[decide_eq_true zo,Bool.true_and,decide_eq_false_iff_not] at hc;simp;omega
      clear hc HPN HPY;rcases hcs2 with d1 | ⟨d1,d2⟩
      all_goals
       go_wp2_with fail;go_ret2;exact⟨by rw[HN.out.1,HN.out.2];rfl,rfl⟩
     ·have hc2:=hc;unfold isD at hc2;simp only[Bool.and_eq_true,decide_eq_true_eq] at hc2;have d1:decide ((s[k].toNat:Int)<48)=false:=by simp;omega
      have d2:decide ((s[k].toNat:Int)>57)=false:=by simp;omega
      have hva:pG (s.data.toList.take (k+1))=10*V+(s[k].toNat-48):=by rw[kZ s k hlt,xO,←HV.out]
      have hal:(s.data.toList.take (k+1)).all isD=true:=by rw[kZ s k hlt,List.all_append,HA.out,List.all_cons,hc];rfl
      have hbd:=UA _ hal;have hlen:(s.data.toList.take (k+1)).length=k+1:=by rw[List.length_take,←HLS.out];omega
      rw[hlen] at hbd;have hp:10 ^ (k+1)≤10 ^ 13:=Nat.pow_le_pow_right zo zo;obtain⟨m,hm⟩:∃ m,10*V+(s[k].toNat-48)=m:=⟨_,rfl⟩;have q1:IntKind.i64.wrap (10*(V:Int))=10*(V:Int):=IntWalk.i64_in _ zo;have q2:((s[k].toNat:Int)-48) % 256=(s[k].toNat:Int)-48:=by omega
      have q3:10*(V:Int)+((s[k].toNat:Int)-48)=(m:Int):=by omega
      rw[hm] at hva;have hm13:m<10000000000000:=by omega
      have q4:IntKind.i64.wrap (m:Int)=(m:Int):=IntWalk.i64_in _ zo;have HVA:=zh hva.symm;have HAL:=zh hal;clear hc hc2 hva hal hbd hlen hp hm HPN HPY;go_wp2_with fail;go_roundw
      case rel=>exact⟨k+1,m,by omega,by go_num,rfl,hm13,HVA,HAL,by first | rfl | exact trivial⟩
      case measure=>simp[intOf];omega
    ·obtain rfl:k=s.size:=by omega
     have hd:decide ((s.size:Int)<(s.size:Int))=false:=by simp
     have htk:s.data.toList.take s.size=s.data.toList:=List.take_of_length_le (by rw[←HLS.out];exact Nat.le_refl _);have ha:=HA.out;have hv:=HV.out;rw[htk] at ha hv;by_cases hb:1099511627776<V
     ·have hbd:decide ((V:Int)>1099511627776)=true:=by simp;omega
      have HN:=zh (HPN.out (.inr (by rw[←hv];exact hb)));clear htk ha hv HPN HPY;go_wp2_with fail;go_ret2;exact⟨by rw[HN.out.1,HN.out.2];rfl,rfl⟩
     ·have hbd:decide ((V:Int)>1099511627776)=false:=by simp;omega
      have HN:=zh (HPY.out ha (by rw[←hv];omega));have HV2:=zh hv;clear htk ha hv HPN HPY;go_wp2_with fail;go_ret2;exact⟨by rw[HN.out.1,HN.out.2,←HV2.out];rfl,rfl⟩
end Go.Proofs.YtaeobegaodhpcaaGreatDoor
namespace Go.Proofs.YtaeobegaodhpcaaGreatDoor
open Go.RowKit Go.Proofs.YtaeobegaodhpcaaGreatDoor.One
theorem vI (l:List UInt8):H16 (pby l 16):=by
 refine⟨GC l 16,?_⟩;unfold pby
 split
 ·rename_i h
  unfold pok at h;have h2:hok l 16=true:=by
   cases hh:hok l 16 with
   | true=>rfl
   | false=>rw[hh,Bool.and_false] at h;cases h
  exact EB (MF h2)
 ·intro y hy;rw[List.mem_replicate] at hy;omega
def hpB (s:ByteArray):List Int:=pby s.data.toList 16
def hpK (s:ByteArray):Bool:=pok s.data.toList 16
def hdB (l:List ByteArray):ByteArray:=l.getD 0 ⟨#[]⟩
def rdK (l:List ByteArray):Bool:=decide (69≤l.length∧l.length≤75) && (pnk (hdB l).data.toList && (decide (pnv (hdB l).data.toList≤65535) && (l.drop 1).all hpK))
def rdA (l:List ByteArray):Int:=if rdK l=true then pnv (hdB l).data.toList else 0
def rdC (l:List ByteArray):List (List Int):=if rdK l=true then ((l.drop 1).take 68).map hpB else []
def rdP (l:List ByteArray):List (List Int):=if rdK l=true then ((l.drop 1).drop 68).map hpB else []
def RdP (l:List ByteArray) (w:World) (e:Ending) (w':World):Prop :=
 ∃ sp1 c1 sp2 c2,e=.returned (.tuple #[.agg (siA (rdA l) (.slice sp1 (rdC l).length c1) (.slice sp2 (rdP l).length c2)),.bool (rdK l)])∧OwnHv w' w.heap.size (.slice sp1 (rdC l).length c1) (rdC l)∧OwnHv w' w.heap.size (.slice sp2 (rdP l).length c2) (rdP l)∧Below w.heap.size w w'
theorem RdP.no {l:List ByteArray} {w:World} {e:Ending} {w':World} (hk:rdK l=false) (he:e=.returned (.tuple #[.agg (siA 0 aH aH),.bool false])) (hb:Below w.heap.size w w'):RdP l w e w':=by
 refine⟨none,0,none,0,?_,?_,?_,hb⟩
 ·rw[he];unfold rdA rdC rdP;rw[hk];rfl
 ·unfold rdC;rw[hk];exact OwnHv.nil _ _
 ·unfold rdP;rw[hk];exact OwnHv.nil _ _
theorem RdP.yes {l:List ByteArray} {w:World} {e:Ending} {w':World} (hk:rdK l=true) {sp1 sp2:Option Addr} {n1 n2 c1 c2:Nat} (he:e=.returned (.tuple #[.agg (siA (pnv (hdB l).data.toList) (.slice sp1 n1 c1) (.slice sp2 n2 c2)),.bool true]))
 (h1:n1=(((l.drop 1).take 68).map hpB).length) (h2:n2=(((l.drop 1).drop 68).map hpB).length) (hc:OwnHv w' w.heap.size (.slice sp1 n1 c1) (((l.drop 1).take 68).map hpB)) (hp:OwnHv w' w.heap.size (.slice sp2 n2 c2) (((l.drop 1).drop 68).map hpB)) (hb:Below w.heap.size w w'):RdP l w e w':=by
 subst h1 h2;refine⟨sp1,c1,sp2,c2,?_,?_,?_,hb⟩
 ·rw[he];unfold rdA rdC rdP;rw[if_pos hk,if_pos hk,if_pos hk,hk]
 ·unfold rdC;rw[if_pos hk];exact hc
 ·unfold rdP;rw[if_pos hk];exact hp
theorem vF {l:List ByteArray} (h:l.length<69∨75<l.length):rdK l=false:=by unfold rdK;rw[decide_eq_false zo];rfl
theorem KM {l:List ByteArray} (h:pnk (hdB l).data.toList=false):rdK l=false:=by unfold rdK;rw[h];simp
theorem KN {l:List ByteArray} (h:65535<pnv (hdB l).data.toList):rdK l=false:=by unfold rdK;rw[decide_eq_false (p:=pnv (hdB l).data.toList≤65535) zo];simp
theorem KO {l:List ByteArray} {j:Nat} (hj:j<(l.drop 1).length) (h:hpK ((l.drop 1)[j])=false):rdK l=false:=by
 have:(l.drop 1).all hpK=false:=by rw[List.all_eq_false];exact⟨_,List.getElem_mem hj,by rw[h];simp⟩
 unfold rdK;rw[this];simp
theorem KL {l:List ByteArray} (h1:69≤l.length∧l.length≤75) (h2:pnk (hdB l).data.toList=true) (h3:pnv (hdB l).data.toList≤65535) (h4:(l.drop 1).all hpK=true):rdK l=true:=by unfold rdK;rw[decide_eq_true h1,h2,decide_eq_true h3,h4];rfl
theorem tkS {W:List ByteArray} {j:Nat} (hj:j<W.length):W.take (j+1)=W.take j++[W[j]]:=by rw[List.take_add_one,List.getElem?_eq_getElem hj];rfl
theorem tkC1 {W:List ByteArray} {j:Nat} (hj:j<W.length) (h:j<68):((W.take (j+1)).take 68).map hpB=((W.take j).take 68).map hpB++[hpB W[j]]:=by
 rw[List.take_of_length_le (by rw[List.length_take];omega),List.take_of_length_le (l:=W.take j) (by rw[List.length_take];omega),tkS hj,List.map_append];rfl
theorem tkP1 {W:List ByteArray} {j:Nat} (h:j≤68):((W.take j).drop 68).map hpB=[]:=by rw[List.drop_of_length_le (by rw[List.length_take];omega)];rfl
theorem tkC2 {W:List ByteArray} {j:Nat} (h:68≤j):((W.take (j+1)).take 68).map hpB=((W.take j).take 68).map hpB:=by rw[List.take_take,List.take_take,Nat.min_eq_left zo,Nat.min_eq_left h]
theorem tkP2 {W:List ByteArray} {j:Nat} (hj:j<W.length) (h:68≤j):((W.take (j+1)).drop 68).map hpB=((W.take j).drop 68).map hpB++[hpB W[j]]:=by
 rw[tkS hj,List.drop_append_of_le_length (by rw[List.length_take];omega),List.map_append];rfl
theorem tkA {W:List ByteArray} {j:Nat} (hj:j<W.length) (h:(W.take j).all hpK=true) (hk:hpK W[j]=true):(W.take (j+1)).all hpK=true:=by rw[tkS hj,List.all_append,h];simp[hk]
structure RdS (w:World) (gs bp:Nat) (a:Int) (cv pv:Value) (cl pl:List (List Int)) (wr:World):Prop where
 z:wr.heap[w.heap.size]? = some (.cells (siA 0 aH aH) 48 (0,0))
 g:wr.heap[gs]? = some (.cells (siA a cv pv) 48 (0,0))
 c:OwnHv wr (w.heap.size+1) cv cl
 p:OwnHv wr bp pv pl
 cb:(pl=[]∧pv=aH)∨(cv.ownBlock=none∨∃ g,cv.ownBlock=some g∧g<bp)
 b:Below w.heap.size w wr
 i:w.heap.size<gs∧gs<wr.heap.size
 m:w.heap.size+1≤bp∧bp≤wr.heap.size
theorem RdS.below {w:World} {gs bp:Nat} {a:Int} {cv pv:Value} {cl pl:List (List Int)} {w1 w2:World} (r:RdS w gs bp a cv pv cl pl w1) (hb:Below w1.heap.size w1 w2):RdS w gs bp a cv pv cl pl w2:=by
 have h1:=r.i;have h2:=hb.size;have h3:=r.m;exact⟨(hb.block _ zo).trans r.z,(hb.block _ zo).trans r.g,r.c.below hb,r.p.below hb,r.cb,r.b.trans (hb.mono zo),by omega,by omega⟩
theorem RdS.addC {w:World} {gs bp:Nat} {a:Int} {cv cv':Value} {cl:List (List Int)} {y:List Int} {w1 w2:World} (r:RdS w gs bp a cv aH cl [] w1) (hb:Below (w.heap.size+1) w1 w2) (hg:w1.grownBy w2 cv.ownBlock) (ho:OwnHv w2 (w.heap.size+1) cv' (cl++[y])) :
 (w2.heap[gs]? = some (.cells (siA a cv aH) 48 (0,0)))∧RdS w gs bp a cv' aH (cl++[y]) [] (w2.setCell ⟨gs,1,none⟩ cv'):=by
 have hp:=r.c.apart r.g iD;have h1:=r.i;have h2:=hb.size;have h3:=r.m;have hg2:w2.heap[gs]? = some (.cells (siA a cv aH) 48 (0,0)):=by
  refine (hg.block _ r.i.2 (fun e=>?_)).trans r.g;rcases hp with hp | hp
  ·rw[hp] at e;cases e
  ·exact hp e.symm
 refine⟨hg2,(heap_setCell_other _ _ _ _ (by show w.heap.size≠gs;omega)).trans ((hb.block _ zo).trans r.z),?_,ho.setCell hg2 iD _ _,OwnHv.nil _ _,.inl ⟨rfl,rfl⟩,(r.b.trans (hb.mono zo)).setCell (by show w.heap.size≤gs;omega) _,?_,?_⟩
 ·rw[heap_setCell_same _ _ _ _ _ _ hg2];rfl
 ·simp[World.setCell];omega
 ·simp[World.setCell];omega
theorem RdS.apartP {w:World} {gs bp:Nat} {a:Int} {cv pv:Value} {cl pl:List (List Int)} {w1:World} (r:RdS w gs bp a cv pv cl pl w1):∃ bq,RdS w gs bq a cv pv cl pl w1∧(cv.ownBlock=none∨∃ g,cv.ownBlock=some g∧g<bq):=by
 rcases r.cb with ⟨e1,e2⟩ | hc
 ·refine⟨w1.heap.size,⟨r.z,r.g,r.c,?_,.inl ⟨e1,e2⟩,r.b,r.i,by have:=r.m;omega⟩,?_⟩
  ·rw[e1,e2];exact OwnHv.nil _ _
  ·rcases r.c.blockK with h0 | ⟨g,h0,_,h1⟩
   ·exact .inl h0
   ·exact .inr ⟨g,h0,h1⟩
 ·exact⟨bp,r,hc⟩
theorem RdS.addP {w:World} {gs bp:Nat} {a:Int} {cv pv pv':Value} {cl pl:List (List Int)} {y:List Int} {w1 w2:World} (r:RdS w gs bp a cv pv cl pl w1) (hc:cv.ownBlock=none∨∃ g,cv.ownBlock=some g∧g<bp) (hb:Below bp w1 w2) (hg:w1.grownBy w2 pv.ownBlock) (ho:OwnHv w2 bp pv' (pl++[y])) :
 (w2.heap[gs]? = some (.cells (siA a cv pv) 48 (0,0)))∧RdS w gs bp a cv pv' cl (pl++[y]) (w2.setCell ⟨gs,2,none⟩ pv'):=by
 have hp:=r.p.apart r.g iD;have h1:=r.i;have h2:=hb.size;have h3:=r.m;have hg2:w2.heap[gs]? = some (.cells (siA a cv pv) 48 (0,0)):=by
  refine (hg.block _ r.i.2 (fun e=>?_)).trans r.g;rcases hp with hp | hp
  ·rw[hp] at e;cases e
  ·exact hp e.symm
 have hcc:OwnHv w2 (w.heap.size+1) cv cl:=by
  refine r.c.keptK hg ?_;rcases hc with hc | ⟨gc,hc,hlt⟩
  ·exact .inl hc
  ·rcases r.p.blockK with h0 | ⟨gp,h0,h1,h2⟩
   ·rw[hc,h0];exact .inr (by simp)
   ·rw[hc,h0];exact .inr (by intro e;injection e with e;omega)
 refine⟨hg2,(heap_setCell_other _ _ _ _ (by show w.heap.size≠gs;omega)).trans ((hb.block _ zo).trans r.z),?_,hcc.setCell hg2 iD _ _,ho.setCell hg2 iD _ _,.inr hc,(r.b.trans (hb.mono zo)).setCell (by show w.heap.size≤gs;omega) _,?_,?_⟩
 ·rw[heap_setCell_same _ _ _ _ _ _ hg2];rfl
 ·simp[World.setCell];omega
 ·simp[World.setCell];omega
theorem KI (sp:Option Addr) (n cap:Nat) (l:List ByteArray) (w:World) (hl:StrsIn w w.heap.size sp n l) (hcap:n≤cap) (hn:n≤1000000) :
 Calls Tryz.prog 55 #[.slice sp n cap] w (RdP l w):=by
 have HL:=zh hl;have hlen:=hl.len;clear hl;have HZ:=zh (heap_alloc_new w (.cells (siA 0 aH aH) 48));have HB:=zh (aA w (.cells (siA 0 aH aH) 48));have HS:=zh (aF w (.cells (siA 0 aH aH) 48));have hbi:=gW
 go_enter Tryz.func55,Tryz.ntmps55
 go_upto_region 1 with (fail)
 generalize hw0:World.alloc w _=w0;have HZ0:Hid (Ah w0 w.heap.size (siA 0 aH aH) 48):=by rw[←hw0];exact HZ.out
 have HB0:Hid (Bw w w0):=by rw[←hw0];exact HB.out
 have hs0:w.heap.size+1≤w0.heap.size:=by rw[←hw0];exact Nat.le_of_eq HS.out.symm
 clear hw0 HZ HB HS;by_cases h1:n<69
 ·have q1:decide ((n:Int)<69)=true:=by simp;omega
  go_wp2_with (refine wpList_store_row rfl 48 _ _ rfl w.heap.size (siA 0 aH aH) rfl rfl 48 _ HZ0.out (aL _ _ _) rfl (cO _ _ _ _ _ _ _) ?_)
  exact bodyPost_ret (aC (P:=Tryz.prog) rfl _ _ w.heap.size 48 _ (0,0) _ rfl (setRow_heap _ _ _ _ _ _ HZ0.out) Tryz.underlying48 rfl (aL _ _ _)) rfl (RdP.no (vF zo) rfl (below_setRow HB0.out zl _))
 ·have q1:decide ((n:Int)<69)=false:=by simp;omega
  by_cases h2:75<n
  ·have q2:decide ((n:Int)>75)=true:=by simp;omega
   go_wp2_with (refine wpList_store_row rfl 48 _ _ rfl w.heap.size (siA 0 aH aH) rfl rfl 48 _ HZ0.out (aL _ _ _) rfl (cO _ _ _ _ _ _ _) ?_)
   exact bodyPost_ret (aC (P:=Tryz.prog) rfl _ _ w.heap.size 48 _ (0,0) _ rfl (setRow_heap _ _ _ _ _ _ HZ0.out) Tryz.underlying48 rfl (aL _ _ _)) rfl (RdP.no (vF zo) rfl (below_setRow HB0.out zl _))
  ·have q2:decide ((n:Int)>75)=false:=by simp;omega
   obtain⟨wb,wo,rfl,hwb,hcw⟩:=HL.out.cells zo;have p1:(0:Int)<(n:Int):=by omega
   have p2:(n:Int)≤(cap:Int):=by omega
   have HC0:Hid (w0.cell? ⟨wb,wo,none⟩=some (.string (hdB l))):=by
    have h:=hcw 0 zo;rw[Nat.add_zero] at h;refine (HB0.out.cell (p:=⟨wb,wo,none⟩) (by show wb<w.heap.size;omega)).trans (h.trans ?_);unfold hdB;rw[List.getD_eq_getElem?_getD,List.getElem?_eq_getElem zo];rfl
   have HCW:=zh hcw;clear hcw;have c0:=HC0.out;go_wp2_with fail;refine (gU (hdB l) w0).mono ?_;rintro e w' ⟨rfl,rfl⟩;clear c0;by_cases hk:pnk (hdB l).data.toList=true
   ·by_cases hb:65535<pnv (hdB l).data.toList
    ·have hkb:=KN hb;have HKB:=zh hkb;have q4:decide (pnv (hdB l).data.toList>65535)=true:=by simpa using hb
     rw[hk]
     go_wp2_with (refine wpList_store_row rfl 48 _ _ rfl w.heap.size (siA 0 aH aH) rfl rfl 48 _ HZ0.out (aL _ _ _) rfl (cO _ _ _ _ _ _ _) ?_)
     exact bodyPost_ret (aC (P:=Tryz.prog) rfl _ _ w.heap.size 48 _ (0,0) _ rfl (setRow_heap _ _ _ _ _ _ HZ0.out) Tryz.underlying48 rfl (aL _ _ _)) rfl (RdP.no HKB.out rfl (below_setRow HB0.out zl _))
    ·have q4:decide (pnv (hdB l).data.toList>65535)=false:=by simpa using hb
     have HPK:=zh hk;have HPV:Hid (pnv (hdB l).data.toList≤65535):=by show _≤_;omega
     rw[hk];clear hb hk;generalize ha:pnv (hdB l).data.toList=a at *;have HAE:=zh ha;clear ha;have HZN:=zh (SxBox.new w0 0 aH aH);have HRN:=zh (SxBox.new w0 a aH aH)
     go_wp2_with (refine wpList_store_row rfl 48 _ _ rfl w0.heap.size (siA a aH aH) rfl rfl 48 _ HZN.out.s (aL _ _ _) rfl (cO _ _ _ _ _ _ _) ?_;rw[aK];generalize hw1:World.alloc w0 _=w1;have HS1:Hid (SxBox w0 a aH aH w1):=(by rw[←hw1];exact HRN.out);clear hw1 HZN HRN)
     clear q1 q2 q4 hbi;have hs1:w0.heap.size+1≤w1.heap.size:=Nat.le_of_eq HS1.out.k.symm;have HR1:Hid (RdS w w0.heap.size (w.heap.size+1) a aH aH [] [] w1):=⟨(HS1.out.b.block _ zo).trans HZ0.out,HS1.out.s,OwnHv.nil _ _,OwnHv.nil _ _,.inl ⟨rfl,rfl⟩,HB0.out.trans (HS1.out.b.mono zo),by omega,by omega⟩;clear HS1 HZ0 HB0;generalize w0.heap.size=gs at *;have hdl:(l.drop 1).length=n-1:=by rw[List.length_drop,hlen]
     go_loopw [7] (fun i wr=>∃ (j bp:Nat) (cv pv:Value),j≤n-1∧i=.int .i64 ((j:Int)+1)∧((l.drop 1).take j).all hpK=true∧(j≤68→pv=aH)∧Hid (RdS w gs bp a cv pv ((((l.drop 1).take j).take 68).map hpB) ((((l.drop 1).take j).drop 68).map hpB) wr)) (fun i _=>n-(intOf i).toNat)
     case atStart=>exact⟨0,w.heap.size+1,aH,aH,by omega,by simp,by simp,fun _=>rfl,show RdS w gs (w.heap.size+1) a aH aH _ _ w1 from by simpa using HR1.out⟩
     case round =>
      clear HR1;obtain⟨j,bp,cv,pv,hj,rfl,hall,hpv,HR⟩:=hrel;have hir:=HR.out.i;have hmr:=HR.out.m;by_cases hlt:j<n-1
      ·have hd1:decide ((j:Int)+1<(n:Int))=true:=by simp;omega
       have p3:(0:Int)≤(j:Int)+1:=by omega
       have p4:(j:Int)+1<(n:Int):=by omega
       have t1:((j:Int)+1).toNat=j+1:=by omega
       have hjl:j<(l.drop 1).length:=by omega
       obtain⟨s,hse⟩:∃ s,(l.drop 1)[j]=s:=⟨_,rfl⟩;have HCJ:Hid (wr.cell? ⟨wb,wo+(j+1),none⟩=some (.string s)):=by
        refine (HR.out.b.cell (p:=⟨wb,wo+(j+1),none⟩) (by show wb<w.heap.size;omega)).trans ((HCW.out (j+1) zo).trans ?_);rw[←hse,List.getElem_drop];congr 2;simp[Nat.add_comm]
       have cj:=HCJ.out;go_wp2_with fail;clear cj hd1;refine (jY s wr).mono ?_;rintro e w6 ⟨rfl,hb6⟩;have HR6:=zh (HR.out.below hb6);have hs6:=hb6.size;clear hb6;have cQ:Hid (H16 (hpB s)):=vI _;have HZN:=zh (Zro.new w6);have HRB:=zh (RowB.new w6 42 (hpB s));have HSE:=zh hse;by_cases hok:pok s.data.toList 16=true
       ·have hallS:=tkA hjl hall (show hpK (l.drop 1)[j]=true by rw[hse];exact hok);rw[hok];by_cases hlt68:j<68
        ·have hd2:decide ((j:Int)+1≤68)=true:=by simp;omega
         clear hok hall hse
         go_upto_region 13 with (refine wpList_store_row rfl 42 _ _ rfl w6.heap.size (hvA (hpB s)) rfl rfl 42 _ HZN.out.z (aI cQ.out) (cE cQ.out) (cM _) ?_;rw[aK];generalize hw9:World.alloc w6 _=w9;have sI:Hid (RowB w6 42 (hpB s) w9):=(by rw[←hw9];exact HRB.out);clear hw9 HZN HRB;have HR9:=zh (HR6.out.below sI.out.b);have HX9:=zh (sI.out.r);have hs9:w6.heap.size+1≤w9.heap.size:=Nat.le_of_eq sI.out.s.symm)
         obtain rfl:pv=aH:=hpv zo;have HTP:Hid ((((l.drop 1).take j).drop 68).map hpB=[]):=tkP1 zo;rw[HTP.out] at HR9;have kf:=sP HR9.out.g;have HNE:Hid (j=((((l.drop 1).take j).take 68).map hpB).length):=by show _=_;simp[List.length_take,List.length_drop];omega
         have hi9:=HR9.out.i;have hm9:=HR9.out.m;have hN9:j≤1000000:=by omega
         go_wp2_with (first
          | (refine wpList_load_row rfl 42 _ rfl w6.heap.size rfl 42 _ (0,0) _ HX9.out Tryz.underlying42 rfl (aI cQ.out) ?_)
          | (refine aT rfl 46 1 [(0,.tmp 56)] rfl [(0,.agg (hvA (hpB s)))] rfl _ _ (gD _ (hpB s) cQ.out) ?_;generalize hw7:World.alloc w9 _=w7;have HB7:Hid (Below w9.heap.size w9 w7):=(by rw[←hw7];exact aA _ _);have HQ7:Hid (w7.rangeAt w9.heap.size 0 ((hpB s).map (Value.int .u8))):=(by rw[←hw7];intro j v hv;rw[Nat.zero_add];exact aG (heap_alloc_new w9 _) hv);have HR7:=zh (HR9.out.below HB7.out);have hs7:=HB7.out.size;clear hw7 kf)
          | (at_builtin;refine cG rfl (.tmp 55) (.tmp 57) rfl (w.heap.size+1) cv _ j HNE.out rfl HR7.out.c w9.heap.size (hpB s) rfl HQ7.out cQ.out hN9 zo ?_;intro sp8 cap8 w8 HO8 HB8 HG8;have HAP:=zh (HR7.out.addC HB8.out HG8.out HO8.out);have kg:=sP HAP.out.1;have fg:=frozen_of_row _ _ 1 _ _ HAP.out.1))
         clear kg fg;have HRZ:=zh HAP.out.2;clear HAP HO8 HB8 HG8;generalize World.setCell w8 _ _=wz at *;go_roundw
         case rel=>exact⟨j+1,bp,(.slice sp8 (j+1) cap8),aH,by omega,by go_num,hallS,fun _=>rfl,by rw[tkC1 hjl hlt68,tkP1 (show j+1≤68 by omega),HSE.out];exact HRZ.out⟩
         case measure=>simp[intOf];omega
        ·have hd2:decide ((j:Int)+1≤68)=false:=by simp;omega
         clear hok hall hse
         go_upto_region 13 with (refine wpList_store_row rfl 42 _ _ rfl w6.heap.size (hvA (hpB s)) rfl rfl 42 _ HZN.out.z (aI cQ.out) (cE cQ.out) (cM _) ?_;rw[aK];generalize hw9:World.alloc w6 _=w9;have sI:Hid (RowB w6 42 (hpB s) w9):=(by rw[←hw9];exact HRB.out);clear hw9 HZN HRB;have HR9:=zh (HR6.out.below sI.out.b);have HX9:=zh (sI.out.r);have hs9:w6.heap.size+1≤w9.heap.size:=Nat.le_of_eq sI.out.s.symm)
         obtain⟨bq,hr9,hcb⟩:=HR9.out.apartP;have HCB:=zh hcb;have aAz:=zh hr9;clear HR9 hcb hr9;have HR9:=aAz;clear aAz;have kf:=sK HR9.out.g;have HNE:Hid ((j-68)=((((l.drop 1).take j).drop 68).map hpB).length):=by show _=_;simp[List.length_take,List.length_drop];omega
         have hi9:=HR9.out.i;have hm9:=HR9.out.m;have hN9:(j-68)≤1000000:=by omega
         go_wp2_with (first
          | (refine wpList_load_row rfl 42 _ rfl w6.heap.size rfl 42 _ (0,0) _ HX9.out Tryz.underlying42 rfl (aI cQ.out) ?_)
          | (refine aT rfl 46 1 [(0,.tmp 62)] rfl [(0,.agg (hvA (hpB s)))] rfl _ _ (gD _ (hpB s) cQ.out) ?_;generalize hw7:World.alloc w9 _=w7;have HB7:Hid (Below w9.heap.size w9 w7):=(by rw[←hw7];exact aA _ _);have HQ7:Hid (w7.rangeAt w9.heap.size 0 ((hpB s).map (Value.int .u8))):=(by rw[←hw7];intro j v hv;rw[Nat.zero_add];exact aG (heap_alloc_new w9 _) hv);have HR7:=zh (HR9.out.below HB7.out);have hs7:=HB7.out.size;clear hw7 kf)
          | (at_builtin;refine cG rfl (.tmp 61) (.tmp 63) rfl bq pv _ (j-68) HNE.out rfl HR7.out.p w9.heap.size (hpB s) rfl HQ7.out cQ.out hN9 zo ?_;intro sp8 cap8 w8 HO8 HB8 HG8;have HAP:=zh (HR7.out.addP HCB.out HB8.out HG8.out HO8.out);have kg:=sK HAP.out.1;have fg:=frozen_of_row _ _ 2 _ _ HAP.out.1))
         clear kg fg;have HRZ:=zh HAP.out.2;clear HAP HO8 HB8 HG8;generalize World.setCell w8 _ _=wz at *;go_roundw
         case rel=>exact⟨j+1,bq,cv,(.slice sp8 ((j-68)+1) cap8),by omega,by go_num,hallS,fun h=>absurd h zo,by rw[tkC2 zo,tkP2 hjl zo,HSE.out];exact HRZ.out⟩
         case measure=>simp[intOf];omega
       ·have hok2:pok s.data.toList 16=false:=by simpa using hok
        have HKB:=zh (KO hjl (by rw[hse];exact hok2));rw[hok2];clear hok2;have hbi:=gW;clear hok hall hse hpv
        go_upto_region 12 with (refine wpList_store_row rfl 42 _ _ rfl w6.heap.size (hvA (hpB s)) rfl rfl 42 _ HZN.out.z (aI cQ.out) (cE cQ.out) (cM _) ?_;rw[aK];generalize hw9:World.alloc w6 _=w9;have sI:Hid (RowB w6 42 (hpB s) w9):=(by rw[←hw9];exact HRB.out);clear hw9 HZN HRB;have HR9:=zh (HR6.out.below sI.out.b);have HX9:=zh (sI.out.r);have hs9:w6.heap.size+1≤w9.heap.size:=Nat.le_of_eq sI.out.s.symm)
        go_wp2_with (refine wpList_store_row rfl 48 _ _ rfl w.heap.size (siA 0 aH aH) rfl rfl 48 _ HR9.out.z (aL _ _ _) rfl (cO _ _ _ _ _ _ _) ?_)
        exact bodyPost_ret (aC (P:=Tryz.prog) rfl _ _ w.heap.size 48 _ (0,0) _ rfl (setRow_heap _ _ _ _ _ _ HR9.out.z) Tryz.underlying48 rfl (aL _ _ _)) rfl (RdP.no HKB.out rfl (below_setRow HR9.out.b zl _))
      ·obtain rfl:j=n-1:=by omega
       have hd1:decide (((n-1:Nat):Int)+1<(n:Int))=false:=by simp;omega
       have HTK:Hid ((l.drop 1).take (n-1)=l.drop 1):=List.take_of_length_le zo;rw[HTK.out] at hall HR;have HKY:=zh (KL (l:=l) zo HPK.out (by rw[HAE.out];exact HPV.out) hall);clear hall hpv;obtain⟨sp1,c1,e1⟩:=aM HR.out.c.1;obtain⟨sp2,c2,e2⟩:=aM HR.out.p.1;obtain⟨N1,hN1⟩:∃ N,(((l.drop 1).take 68).map hpB).length=N:=⟨_,rfl⟩;obtain⟨N2,hN2⟩:∃ N,(((l.drop 1).drop 68).map hpB).length=N:=⟨_,rfl⟩;rw[hN1] at e1;rw[hN2] at e2;have HN1:=zh hN1;have HN2:=zh hN2;clear hN1 hN2;subst e1 e2
       go_wp2_with (first
        | (refine wpList_load_row rfl 48 _ rfl gs rfl 48 _ (0,0) _ HR.out.g Tryz.underlying48 rfl (aL _ _ _) ?_)
        | (refine wpList_store_row rfl 48 _ _ rfl w.heap.size _ rfl rfl 48 _ HR.out.z (aL _ _ _) rfl (cO _ _ _ _ _ _ _) ?_))
       refine bodyPost_ret (aC (P:=Tryz.prog) rfl _ _ w.heap.size 48 _ (0,0) _ rfl (setRow_heap _ _ _ _ _ _ HR.out.z) Tryz.underlying48 rfl (aL _ _ _)) rfl (RdP.yes HKY.out (n1:=N1) (n2:=N2) (sp1:=sp1) (sp2:=sp2) (c1:=c1) (c2:=c2) (by rw[HAE.out];rfl) HN1.out.symm HN2.out.symm ?_ ?_ (below_setRow HR.out.b zl _))
       ·exact OwnHv.setRow (base:=w.heap.size) (HR.out.c.base (Nat.le_succ _)) HR.out.z iD _
       ·exact OwnHv.setRow (base:=w.heap.size) (HR.out.p.base (by have:=HR.out.m;omega)) HR.out.z iD _
   ·have hk2:pnk (hdB l).data.toList=false:=by simpa using hk
    have HKB:=zh (KM hk2);rw[hk2];clear hk hk2
    go_wp2_with (refine wpList_store_row rfl 48 _ _ rfl w.heap.size (siA 0 aH aH) rfl rfl 48 _ HZ0.out (aL _ _ _) rfl (cO _ _ _ _ _ _ _) ?_)
    exact bodyPost_ret (aC (P:=Tryz.prog) rfl _ _ w.heap.size 48 _ (0,0) _ rfl (setRow_heap _ _ _ _ _ _ HZ0.out) Tryz.underlying48 rfl (aL _ _ _)) rfl (RdP.no HKB.out rfl (below_setRow HB0.out zl _))
end Go.Proofs.YtaeobegaodhpcaaGreatDoor
