/-
  The walk of the reference's Number: for every int64.
-/
import Derived.Test.YtaeobegaodhpcaaGreatDoorZip
import Derived.Test.YtaeobegaodhpcaaGreatDoorQ22
set_option maxRecDepth 100000
set_option maxHeartbeats 8000000
namespace Go.Proofs.YtaeobegaodhpcaaGreatDoor
open Go.RowKit
theorem WQ (P S:ByteArray):P++S=⟨(P.data.toList++S.data.toList).toArray⟩:=by
 apply ByteArray.ext;simp
def dz (u:Nat):List UInt8:=if u=0 then [] else Lib.decDigits u
theorem QZ (u:Nat) (h:0<u):dz u=dz (u / 10)++[UInt8.ofNat (48+u % 10)]:=by
 unfold dz;rw[if_neg zo];by_cases h10:u<10
 ·rw[Lib.decDigits_one h10,if_pos zo,show u % 10=u by omega];rfl
 ·rw[RD u h10,if_neg zo]
theorem mX (n:Int) (h0 : -9223372036854775808≤n) (h1:n≤9223372036854775807) (w:World) :
 Calls Tryz.prog 20 #[.int .i64 n] w fun e w'=>e=.returned (.string ⟨(Lib.itoa n).toArray⟩)∧Below w.heap.size w w':=by
 by_cases hz:n=0
 ·subst hz;have HI:Hid ((Lib.itoa 0)=[48]):=by show _=_;rw[show (0:Int)=((0:Nat):Int) from rfl,Lib.itoa_nonneg,Lib.decDigits_one zo];rfl
  go_enter Tryz.func20,Tryz.ntmps20
  go_wp2_with fail;go_ret;exact⟨by rw[HI.out];rfl,Below.refl _ _⟩
 ·have e0:(n == 0)=false:=by simpa using hz
  have hcs:∃ u:Nat,u<18446744073709551616∧0<u∧((decide (n<0)=true∧IntKind.u64.wrap (-IntKind.u64.wrap n)=(u:Int)∧Lib.itoa n=45 :: dz u)∨(decide (n<0)=false∧n=(u:Int)∧Lib.itoa n=dz u)):=by
   by_cases hneg:n<0
   ·refine⟨n.natAbs,by omega,by omega,.inl ⟨by simpa using hneg,?_,?_⟩⟩
    ·show (-(n % 18446744073709551616)) % 18446744073709551616=_;omega
    ·unfold Lib.itoa dz;rw[if_pos hneg,if_neg zo]
   ·refine⟨n.toNat,by omega,by omega,.inr ⟨by simp;omega,by omega,?_⟩⟩;unfold Lib.itoa dz;rw[if_neg hneg,if_neg zo]
  obtain⟨u0,hu,hu0,hcs⟩:=hcs;clear h0 h1 hz;have HST:Hid (∀ (wr:World) (c:UInt8),(convert 22 9 (.slice (some ⟨wr.heap.size,0,none⟩) 1 1)).run Tryz.prog (wr.alloc (.cells #[.int .u8 (c.toNat:Int)] 5))=.ok (.string ⟨#[c]⟩) (wr.alloc (.cells #[.int .u8 (c.toNat:Int)] 5))):=fun wr c=>by
   refine run_convert_bytes_back _ 22 9 5 _ 1 [c] Tryz.underlying22 Tryz.underlying5 Tryz.underlying9 (fun j hj=>?_);have hj0:j=0:=by simp at hj;omega
   subst hj0;rw[Addr.add_mid,cell_of_row _ wr.heap.size (0+0) _ _ (0,0) (heap_alloc_new wr _)];rfl
  rcases hcs with ⟨hd,hq,hi⟩ | ⟨hd,hq,hi⟩
  focus
   have HI:=zh hi;clear hi
   go_enter Tryz.func20,Tryz.ntmps20
   go_wp2_with fail
  rotate_left
  focus
   have HI:=zh hi;have HQ:=zh hq;clear hi;subst hq
   go_enter Tryz.func20,Tryz.ntmps20
   go_wp2_with fail
  all_goals
   go_loopw [4,5] (fun a b wr=>∃ (u:Nat) (S:ByteArray),a=.int .u64 u∧b=.string S∧S.size≤20∧u<18446744073709551616∧Hid (u<10 ^ (20-S.size))∧Hid (dz u++S.data.toList=dz u0)∧Hid (Below w.heap.size w wr)) (fun a _ _=>(intOf a).toNat)
   case atStart=>exact⟨u0,⟨#[]⟩,rfl,rfl,by show 0≤20;omega,hu,by show u0<10 ^ 20;omega,by show _=_;simp,Below.refl _ _⟩
   case round =>
    obtain⟨u,S,rfl,rfl,hS,hu2,HP,HD,hbe⟩:=hrel;have hbs:=hbe.out.size;by_cases hlt:0<u
    ·have hd2:decide ((u:Int)>0)=true:=by simp;omega
     obtain⟨c,hc⟩:∃ c:UInt8,c=UInt8.ofNat (48+u % 10):=⟨_,rfl⟩;have hcn:c.toNat=48+u % 10:=by rw[hc,yQ _ zo]
     have q1:48+(u:Int) % 10=(c.toNat:Int):=by omega
     have q1':48+Int.tmod (u:Int) 10=(c.toNat:Int):=by rw[Int.tmod_eq_emod_of_nonneg zo];omega
     obtain⟨v,hv⟩:∃ v,u / 10=v:=⟨_,rfl⟩;have q2:(u:Int) / 10=(v:Int):=by omega
     have q2':Int.tdiv (u:Int) 10=(v:Int):=by rw[Int.tdiv_eq_ediv_of_nonneg zo];omega
     have q3:(c.toNat:Int) % 256=(c.toNat:Int):=by omega
     have hrun:=HST.out wr c;have hS2:S.size<20:=by
      rcases Nat.lt_or_ge S.size 20 with h | h
      ·exact h
      ·have:=HP.out;rw[show 20-S.size=0 by omega] at this;omega
     have HD2:Hid (dz v++((⟨#[c]⟩:ByteArray)++S).data.toList=dz u0):=by
      show _=_;rw[←HD.out,QZ u hlt,←hc,hv,List.append_assoc];congr 1
     have HP2:Hid (v<10 ^ (20-(S.size+1))):=by
      show _<_;have h1:=HP.out;rw[show 20-S.size=(20-(S.size+1))+1 by omega,Nat.pow_succ] at h1;omega
     have hcat:(1:Int)+(S.size:Int)≤9223372036854775807:=by omega
     have hv2:v<u:=by omega
     clear hc hcn hv;go_wp2_with fail;go_roundw
     case rel =>
      have hsz:((⟨#[c]⟩:ByteArray)++S).size=S.size+1:=by rw[ByteArray.size_append];show 1+S.size=_;omega
      refine⟨v,(⟨#[c]⟩:ByteArray)++S,rfl,rfl,by rw[hsz];omega,by omega,?_,HD2,hbe.out.alloc hbs _⟩;rw[hsz];exact HP2
     case measure=>simp[intOf];omega
    ·obtain rfl:u=0:=by omega
     have hd2:decide (((0:Nat):Int)>0)=false:=by decide
     have HF:Hid (S.data.toList=dz u0):=HD.out;have hcat:(1:Int)+(S.size:Int)≤9223372036854775807:=by omega
     clear HST;go_wp2_with fail;go_ret;refine⟨?_,hbe.out⟩;rw[HI.out,←HF.out];show Ending.returned (.string (_++S))=_;rw[WQ];rfl
end Go.Proofs.YtaeobegaodhpcaaGreatDoor
namespace Go.Proofs.YtaeobegaodhpcaaGreatDoor
open Go.RowKit Go.Proofs.YtaeobegaodhpcaaGreatDoor.One
theorem vL:(Tryz.prog.info? 9).map (fun i=>(i.zero,i.size,i.bytes))=some (some (.string ⟨#[]⟩),1,16):=by kernel_rfl
def OwnW (w:World) (base:Nat) (v:Value) (l:List ByteArray):Prop:=w.ownsRow base 9 1 v l.length (l.map Value.string)
theorem OwnW.below {w w':World} {base:Nat} {v:Value} {l:List ByteArray} (h:OwnW w base v l) (hb:Below w.heap.size w w'):OwnW w' base v l:=eB h hb
theorem OwnW.base {w:World} {b b':Nat} {v:Value} {l:List ByteArray} (h:OwnW w b v l) (hb:b'≤b):OwnW w b' v l:=by
 obtain⟨hl,h1 | ⟨g,cap,cur,e,hbg,rest⟩⟩:=h
 ·exact⟨hl,.inl h1⟩
 ·exact⟨hl,.inr ⟨g,cap,cur,e,Nat.le_trans hb hbg,rest⟩⟩
theorem OwnW.strs {w:World} {base:Nat} {sp:Option Addr} {n cap:Nat} {l:List ByteArray} (h:OwnW w base (.slice sp n cap) l) (hn:l.length=n):StrsIn w w.heap.size sp n l:=by
 refine⟨hn,fun h0=>?_⟩;obtain⟨hl,⟨e,e0⟩ | ⟨g,cap',cur,e,hb,hg,hc,hm,hs,ht⟩⟩:=h
 ·omega
 ·injection e with e1 e2 e3
  refine⟨g,0,e1,(Array.getElem?_eq_some_iff.1 hg).1,fun j hj=>?_⟩;rw[cell_of_row w g (0+j) _ _ _ hg,Nat.zero_add];have h6:(l.map Value.string)[j]? = some (.string l[j]):=by rw[List.getElem?_map,List.getElem?_eq_getElem hj];rfl
  rw[←ht,List.getElem?_take,if_pos zo] at h6;simpa using h6
theorem jT {w:World} {ops:Array Oper} {rest:List Oper} {o:Oper} {a:Act} {Q:Exit→Act→World→Prop} (hgd:o.guard=none) (s x:Operand)
 (ho:o.op=.call { callee:=.builtin .append,args:=#[s,x],argTypes:=#[55,55] }) (base:Nat) (v:Value) (l:List ByteArray) (n:Nat) (hn:n=l.length) (hs:a.eval s=v) (hown:OwnW w base v l)
 (g:Nat) (y:ByteArray) (hx:a.eval x=.slice (some ⟨g,0,none⟩) 1 1) (hy:w.heap[g]? = some (.cells #[.string y] 9 (0,0))) (hlen:n≤1000000) (hbase:base≤w.heap.size)
 (h:∀ sp cap w',Hid (OwnW w' base (.slice sp (n+1) cap) (l++[y]))→Hid (Below base w w')→Hid (w.grownBy w' v.ownBlock)→wpList Tryz.prog ops Q rest (a.put o.dst (.slice sp (n+1) cap)) w'):wpList Tryz.prog ops Q (o :: rest) a w:=by
 subst hn;obtain⟨i0,hi0,hz0,hz1,hz2⟩:=info_parts vL;refine wpList_append_own w hgd s x _ ho base _ i0 _ 1 16 Tryz.underlying55 hi0 hz0 hz1 hz2 rfl (by decide) v l.length _ hs hown ⟨g,0,none⟩ 1 1 [.string y] hx rfl ?_ (by intro u hu;rw[List.mem_singleton.1 hu];rfl) (by unfold maxLen;omega) zo hbase ?_
 ·intro j u hj;rw[Addr.add_mid,cell_of_row w g (0+j) _ _ _ hy,Nat.zero_add];simpa using hj
 ·intro v' w' h1 h2 _;obtain⟨sp,cap,rfl⟩:=aM h1;exact h sp cap w' (show OwnW _ _ _ _ by unfold OwnW;rw[List.length_append,List.map_append];simpa using h1) ((Below.refl base w).grown h2 hbase (bO hown)) h2
def iV (x:List Int):ByteArray:=⟨(sW x).toArray⟩
def mE (l:Int):ByteArray:=⟨(Lib.itoa l).toArray⟩
def lP (l:Int) (cl pl:List (List Int)):List ByteArray:=[mE l]++cl.map iV++pl.map iV
structure SxBox (w:World) (l:Int) (c p:Value) (w0:World):Prop where
 s:w0.heap[w.heap.size]? = some (.cells (siA l c p) 48 (0,0))
 b:Below w.heap.size w w0
 k:w0.heap.size=w.heap.size+1
theorem SxBox.new (w:World) (l:Int) (c p:Value):SxBox w l c p (w.alloc (.cells (siA l c p) 48)):=⟨heap_alloc_new w _,aA _ _,aF _ _⟩
theorem xQ {l:List (List Int)} {k:Nat} (hk:k<l.length):(l.take (k+1)).map iV=(l.take k).map iV++[iV (l.getD k [])]:=by
 rw[List.take_add_one,List.map_append,List.getElem?_eq_getElem hk,List.getD_eq_getElem?_getD,List.getElem?_eq_getElem hk];rfl
theorem FN (l:Int) (sp1:Option Addr) (n c1:Nat) (cl:List (List Int)) (sp2:Option Addr) (m c2:Nat) (pl:List (List Int)) (w:World) (h0 : -9223372036854775808≤l) (h1:l≤9223372036854775807) (hc:HvsIn w w.heap.size sp1 n c1 cl) (hp:HvsIn w w.heap.size sp2 m c2 pl) (hn:n≤1000) (hm:m≤1000) :
 Calls Tryz.prog 22 #[.agg (siA l (.slice sp1 n c1) (.slice sp2 m c2))] w fun e w'=>∃ sp cap,e=.returned (.slice sp (1+n+m) cap)∧OwnW w' w.heap.size (.slice sp (1+n+m) cap) (lP l cl pl)∧Below w.heap.size w w':=by
 have HCL:=zh hc;have HPL:=zh hp;clear hc hp;have HT:=zh (SxBox.new w l (.slice sp1 n c1) (.slice sp2 m c2));have HCN:=zh (fun w'=>mX l h0 h1 w');clear h0 h1
 go_enter Tryz.func22,Tryz.ntmps22
 go_upto_region 1 with (fail)
 generalize hw0:World.alloc w _=w0;have HT0:Hid (SxBox w l (.slice sp1 n c1) (.slice sp2 m c2) w0):=by rw[←hw0];exact HT.out
 clear hw0 HT;have hs0:w.heap.size+1≤w0.heap.size:=Nat.le_of_eq HT0.out.k.symm;have k2:=rI HT0.out.s;go_wp2_with fail;clear k2;refine (HCN.out _).mono ?_;rintro e w1 ⟨rfl,hb1⟩;have HB1:Hid (Below (w.heap.size+1) w0 w1):=hb1.mono hs0;have hs1:w0.heap.size≤w1.heap.size:=hb1.size;clear hb1 HCN;have HSL:Hid (OwnW (w1.alloc (.cells #[.string (mE l)] 9)) w1.heap.size (.slice (some ⟨w1.heap.size,0,none⟩) 1 1) [mE l]):=World.ownsRow_lit w1 #[.string (mE l)] 1 zl (by unfold maxLen;omega) rfl;have HSB:=zh (aA w1 (.cells #[.string (mE l)] 9));go_wp2_with fail;generalize hw2:World.alloc w1 _=w2;have HO2:Hid (OwnW w2 (w.heap.size+1) (.slice (some ⟨w1.heap.size,0,none⟩) 1 1) [mE l]):=(by rw[←hw2];exact OwnW.base HSL.out zo);have HB2:Hid (Bw w1 w2):=(by rw[←hw2];exact HSB.out);clear hw2 HSL HSB
 go_loopw [3,4] (fun v i wr=>∃ k:Nat,k≤n∧i=.int .i64 (k:Int)∧Hid (OwnW wr (w.heap.size+1) v ([mE l]++(cl.take k).map iV))∧Hid (Below (w.heap.size+1) w0 wr)) (fun _ i _=>n-(intOf i).toNat)
 case atStart=>exact⟨0,by omega,rfl,(show OwnW w2 (w.heap.size+1) _ _ from by simpa using HO2.out),Below.trans HB1.out (Below.trans (HB2.out.mono zo) (Below.refl _ _))⟩
 case round =>
  obtain⟨k,hk,rfl,HOW,HBR⟩:=hrel;have hszr:w.heap.size+1≤wr.heap.size:=by have:=HBR.out.size;omega
  have HSr:Hid (Ah wr w.heap.size (siA l (.slice sp1 n c1) (.slice sp2 m c2)) 48):=(HBR.out.block _ zo).trans HT0.out.s;have kf:=sP HSr.out;have HLv:Hid (HvsIn wr w.heap.size sp1 n c1 cl):=HCL.out.below (HT0.out.b.trans (HBR.out.mono zo)) zl;by_cases hlt:k<n
  ·have hd1:decide ((k:Int)<(n:Int))=true:=by simp;omega
   have p1:(0:Int)≤(k:Int):=by omega
   have p2:(k:Int)<(n:Int):=by omega
   obtain⟨sb,so,hsp,hsb,hcc,hrr⟩:=HLv.out.cells zo;have HYR:Hid (wr.rangeAt sb (so+k*16) ((cl.getD k []).map (Value.int .u8))):=hrr k hlt;have cQ:=zh (HLv.out.at16 hlt);have p3:(n:Int)≤(c1:Int):=by omega
   have HSN:=zh (xQ (l:=cl) (k:=k) (by rw[HLv.out.len];exact hlt));have HLK:Hid (1+k=([mE l]++(cl.take k).map iV).length):=by show _=_;have:=HLv.out.len;have:=HCL.out.len;simp[List.length_take];omega
   rw[hsp] at kf;clear hrr hsp;generalize cl.getD k []=y at *;have HIY:=zh (bS cQ.out);have HCF:=zh (fun w'=>eY y w' cQ.out.1 cQ.out.2)
   go_wp2_with (refine wpList_load_mid rfl 42 _ rfl sb (so+k*16) rfl _ _ HYR.out Tryz.underlying42 rfl HIY.out ?_)
   clear kf;refine (HCF.out _).mono ?_;rintro e w6 ⟨rfl,hb6⟩;have HB6:=zh hb6;have HO6:=zh (HOW.out.below hb6);have hs6:w.heap.size+1≤w6.heap.size:=by have:=hb6.size;omega
   clear hb6;have HSL:=zh (heap_alloc_new w6 (.cells #[.string (iV y)] 9));have HSB:=zh (aA w6 (.cells #[.string (iV y)] 9))
   go_wp2_with (at_builtin;generalize hw7:World.alloc w6 _=w7;have HS7:Hid (Ah w7 w6.heap.size #[.string (iV y)] 9):=(by rw[←hw7];exact HSL.out);have HB7:Hid (Bw w6 w7):=(by rw[←hw7];exact HSB.out);have hs7:w.heap.size+1≤w7.heap.size:=(by have:=HB7.out.size;omega);have HO7:=zh (HO6.out.below HB7.out);clear hw7 HSL HSB;refine jT rfl (.tmp 17) (.tmp 24) rfl (w.heap.size+1) _ _ (1+k) HLK.out rfl HO7.out w6.heap.size (iV y) rfl HS7.out zo hs7 ?_;intro sp8 cap8 w8 HO8 HB8 HG8)
   go_roundw
   case rel=>exact⟨k+1,by omega,by go_num,by rw[HSN.out,←List.append_assoc];exact HO8,HBR.out.trans ((HB6.out.mono zo).trans ((HB7.out.mono zo).trans HB8.out))⟩
   case measure=>simp[intOf];omega
  ·obtain rfl:n=k:=by omega
   have hd1:decide ((n:Int)<(n:Int))=false:=by simp
   have HTK:Hid (cl.take n=cl):=List.take_of_length_le (Nat.le_of_eq HLv.out.len);rw[HTK.out] at HOW;have HOX:=HOW;have HBX:=HBR;clear HOW HBR HSr HLv HTK hszr;go_wp2_with fail;clear hd1 kf
   go_loopw [3,5] (fun v i wr=>∃ k:Nat,k≤m∧i=.int .i64 (k:Int)∧Hid (OwnW wr (w.heap.size+1) v (([mE l]++cl.map iV)++(pl.take k).map iV))∧Hid (Below (w.heap.size+1) w0 wr)) (fun _ i _=>m-(intOf i).toNat)
   case atStart=>exact⟨0,by omega,rfl,(show OwnW _ (w.heap.size+1) _ _ from by simpa using HOX.out),HBX.out⟩
   case round =>
    obtain⟨k,hk,rfl,HOW,HBR⟩:=hrel;have hszr:w.heap.size+1≤wr.heap.size:=by have:=HBR.out.size;omega
    have HSr:Hid (Ah wr w.heap.size (siA l (.slice sp1 n c1) (.slice sp2 m c2)) 48):=(HBR.out.block _ zo).trans HT0.out.s;have kf:=sK HSr.out;have HLv:Hid (HvsIn wr w.heap.size sp2 m c2 pl):=HPL.out.below (HT0.out.b.trans (HBR.out.mono zo)) zl;by_cases hlt:k<m
    ·have hd1:decide ((k:Int)<(m:Int))=true:=by simp;omega
     have p1:(0:Int)≤(k:Int):=by omega
     have p2:(k:Int)<(m:Int):=by omega
     obtain⟨sb,so,hsp,hsb,hcc,hrr⟩:=HLv.out.cells zo;have HYR:Hid (wr.rangeAt sb (so+k*16) ((pl.getD k []).map (Value.int .u8))):=hrr k hlt;have cQ:=zh (HLv.out.at16 hlt);have p3:(m:Int)≤(c2:Int):=by omega
     have HSN:=zh (xQ (l:=pl) (k:=k) (by rw[HLv.out.len];exact hlt));have HLK:Hid ((1+n)+k=(([mE l]++cl.map iV)++(pl.take k).map iV).length):=by show _=_;have:=HLv.out.len;have:=HCL.out.len;simp[List.length_take];omega
     rw[hsp] at kf;clear hrr hsp;generalize pl.getD k []=y at *;have HIY:=zh (bS cQ.out);have HCF:=zh (fun w'=>eY y w' cQ.out.1 cQ.out.2)
     go_wp2_with (refine wpList_load_mid rfl 42 _ rfl sb (so+k*16) rfl _ _ HYR.out Tryz.underlying42 rfl HIY.out ?_)
     clear kf;refine (HCF.out _).mono ?_;rintro e w6 ⟨rfl,hb6⟩;have HB6:=zh hb6;have HO6:=zh (HOW.out.below hb6);have hs6:w.heap.size+1≤w6.heap.size:=by have:=hb6.size;omega
     clear hb6;have HSL:=zh (heap_alloc_new w6 (.cells #[.string (iV y)] 9));have HSB:=zh (aA w6 (.cells #[.string (iV y)] 9))
     go_wp2_with (at_builtin;generalize hw7:World.alloc w6 _=w7;have HS7:Hid (Ah w7 w6.heap.size #[.string (iV y)] 9):=(by rw[←hw7];exact HSL.out);have HB7:Hid (Bw w6 w7):=(by rw[←hw7];exact HSB.out);have hs7:w.heap.size+1≤w7.heap.size:=(by have:=HB7.out.size;omega);have HO7:=zh (HO6.out.below HB7.out);clear hw7 HSL HSB;refine jT rfl (.tmp 33) (.tmp 40) rfl (w.heap.size+1) _ _ ((1+n)+k) HLK.out rfl HO7.out w6.heap.size (iV y) rfl HS7.out zo hs7 ?_;intro sp8 cap8 w8 HO8 HB8 HG8)
     go_roundw
     case rel=>exact⟨k+1,by omega,by go_num,by rw[HSN.out,←List.append_assoc];exact HO8,HBR.out.trans ((HB6.out.mono zo).trans ((HB7.out.mono zo).trans HB8.out))⟩
     case measure=>simp[intOf];omega
    ·obtain rfl:m=k:=by omega
     have hd1:decide ((m:Int)<(m:Int))=false:=by simp
     have HTK:Hid (pl.take m=pl):=List.take_of_length_le (Nat.le_of_eq HLv.out.len);rw[HTK.out] at HOW;have HLE:([mE l]++cl.map iV++pl.map iV).length=1+n+m:=by have:=HLv.out.len;have:=HCL.out.len;simp;omega
     obtain⟨sp',cap',rfl⟩:=aM HOW.out;have how:=HOW.out;rw[HLE] at how ⊢;have aBc:=zh how;clear how HOW HLE;go_wp2_with fail;go_ret;exact⟨sp',cap',rfl,aBc.out.base (Nat.le_succ _),HT0.out.b.trans (HBR.out.mono zo)⟩
end Go.Proofs.YtaeobegaodhpcaaGreatDoor
namespace Go.Proofs.YtaeobegaodhpcaaGreatDoor
open Go.RowKit
def hexd:List UInt8:=[48,49,50,51,52,53,54,55,56,57,97,98,99,100,101,102]
def qT (c:UInt8):Nat:=if 48≤c.toNat∧c.toNat≤57 then c.toNat-48 else if 97≤c.toNat∧c.toNat≤102 then c.toNat-87 else 16
theorem vO (c:UInt8):qT c≤16:=by unfold qT;split <;> (try split) <;> omega
theorem BT:∀ c:Fin 256,Lib.indexByte hexd (UInt8.ofNat c.val)=if qT (UInt8.ofNat c.val)=16 then -1 else (qT (UInt8.ofNat c.val):Int):=by decide +kernel
theorem GH (c:UInt8):Lib.indexByte hexd c=if qT c=16 then -1 else (qT c:Int):=by
 have h:=BT ⟨c.toNat,UInt8.toNat_lt _⟩;simpa using h
def hby (l:List UInt8) (i:Nat):Int:=((16*qT (l.getD (2*i) 0)+qT (l.getD (2*i+1) 0):Nat):Int)
def SY (l:List UInt8) (i:Nat):Bool:=decide (qT (l.getD (2*i) 0)<16) && decide (qT (l.getD (2*i+1) 0)<16)
def hok (l:List UInt8) (n:Nat):Bool:=(List.range n).all (SY l)
def hbs (l:List UInt8) (n:Nat):List Int:=(List.range n).map (hby l)
theorem eN (l:List UInt8) (n:Nat):(hbs l n).length=n:=by simp[hbs]
theorem DY (l:List UInt8) (k:Nat):hok l (k+1)=(hok l k && SY l k):=by unfold hok;rw[List.range_succ,List.all_append];simp
theorem DZ (l:List UInt8) (k:Nat):hbs l (k+1)=hbs l k++[hby l k]:=by unfold hbs;rw[List.range_succ,List.map_append];rfl
theorem ME {l:List UInt8} {k n:Nat} (h:SY l k=false) (hk:k<n):hok l n=false:=by
 unfold hok;rw[List.all_eq_false];exact⟨k,by simpa using hk,by rw[h];simp⟩
theorem TW (l:List UInt8) (L0:List Int) (n k:Nat) (hl:L0.length=n) (hk:k<n):(hbs l k++L0.drop k).set k (hby l k)=hbs l (k+1)++L0.drop (k+1):=by
 rw[List.set_append_right _ _ (by rw[eN];exact Nat.le_refl _),eN,Nat.sub_self,DZ,List.drop_eq_getElem_cons (l:=L0) (i:=k) zo,List.append_assoc];rfl
theorem tD (l:List UInt8) (L0:List Int) (n k:Nat) (hl:L0.length=n) (hk:k≤n):(hbs l k++L0.drop k).length=n:=by
 rw[List.length_append,eN,List.length_drop];omega
theorem PX:∀ a b:Fin 16,(bits .or .i64 ((a.val:Int)*16) (b.val:Int))=((16*a.val+b.val:Nat):Int):=by decide +kernel
theorem VC (a b:Nat) (ha:a<16) (hb:b<16):bits .or .i64 ((a:Int)*16) (b:Int)=((16*a+b:Nat):Int):=PX ⟨a,ha⟩ ⟨b,hb⟩
theorem nJ (s:ByteArray) (c:Int) (w:World) :
 Calls Tryz.prog 105 #[.string s,.int .u8 c] w fun e w'=>e=.returned (.int .i64 (Lib.indexByte s.data.toList c.toNat.toUInt8))∧w=w':=by
 go_enter Tryz.func105,Tryz.ntmps105
 go_wp2
 rw[run_callFunc_extern Tryz.func137 (by kernel_rfl) (by kernel_rfl) (by kernel_rfl) (e:=Extern.BytealgIndexByte.indexByte) (by kernel_rfl),Lib.run_indexByteString];simp only[Result.andThen];rw[Oper.upon_value]
 go_wp2
 go_ret;exact⟨rfl,rfl⟩
theorem sV (s:ByteArray) (c:Int) (w:World) :
 Calls Tryz.prog 66 #[.string s,.int .u8 c] w fun e w'=>e=.returned (.int .i64 (Lib.indexByte s.data.toList c.toNat.toUInt8))∧w=w':=by
 go_enter Tryz.func66,Tryz.ntmps66
 go_wp2_with (go_at_call 105;refine (nJ _ _ _).mono ?_;rintro e w' ⟨rfl,rfl⟩)
 go_ret;exact⟨rfl,rfl⟩
theorem WR (c:UInt8):((c.toNat:Int)).toNat.toUInt8=c:=by simp
theorem MH (c:UInt8) (w:World) :
 Calls Tryz.prog 66 #[.string ⟨#[48,49,50,51,52,53,54,55,56,57,97,98,99,100,101,102]⟩,.int .u8 (c.toNat:Int)] w fun e w'=>e=.returned (.int .i64 (if qT c=16 then -1 else (qT c:Int)))∧w=w' :=
 (sV _ _ w).mono fun e w' ⟨he,hw⟩=>⟨by rw[he,WR,←GH];rfl,hw⟩
theorem nM (s:ByteArray) (i:Nat) (h:i<s.size):s.data.toList.getD i 0=s[i]:=by
 rw[List.getD_eq_getElem?_getD,List.getElem?_eq_getElem (by simpa using h)];rfl
theorem JH (g:Nat) (ty:TypeId) (L0:List Int) (n:Nat) (s:ByteArray) (w:World) (hrow:RowIn w g ty .u8 L0) (hl:L0.length=n) (hn:n≤64) :
 Calls Tryz.prog 120 #[.slice (some ⟨g,0,none⟩) n n,.string s] w fun e w'=>∃ L:List Int,e=.returned (.bool (decide (s.size=2*n) && hok s.data.toList n))∧L.length=n∧RowIn w' g ty .u8 L∧w.grownBy w' (some g)∧((decide (s.size=2*n) && hok s.data.toList n)=true→L=hbs s.data.toList n):=by
 have HR:=zh hrow;have HL:=zh hl;clear hrow hl;by_cases hsz:s.size=2*n
 ·have HSZ:=zh hsz;have ht:((s.size:Int) != 2*(n:Int))=false:=by rw[bne_eq_false_iff_eq];omega
  go_enter Tryz.func120,Tryz.ntmps120
  go_wp2_with fail
  go_loopw [16] (fun i wr=>∃ k:Nat,k≤n∧i=.int .i64 k∧Hid (hok s.data.toList k=true)∧Hid (RowIn wr g ty .u8 (hbs s.data.toList k++L0.drop k))∧Hid (w.grownBy wr (some g))) (fun i _=>n-(intOf i).toNat)
  case atStart=>exact⟨0,by omega,rfl,rfl,HR.out,World.grownBy.refl _ _⟩
  case round =>
   obtain⟨k,hk,rfl,hok0,hrow,hgr⟩:=hrel;by_cases hlt:k<n
   ·have hd:decide ((k:Int)<(n:Int))=true:=by simp;omega
    have p0:2*k<s.size:=by omega
    have p1:2*k+1<s.size:=by omega
    have p2:(0:Int)≤(k:Int):=by omega
    have p3:(k:Int)<(n:Int):=by omega
    have p4:(0:Int)≤2*(k:Int):=by omega
    have p5:2*(k:Int)<(s.size:Int):=by omega
    have p6:(0:Int)≤2*(k:Int)+1:=by omega
    have p7:2*(k:Int)+1<(s.size:Int):=by omega
    have p8:(2*(k:Int)).toNat=2*k:=by omega
    have p9:(2*(k:Int)+1).toNat=2*k+1:=by omega
    have c0:=hrow.out.get k (by rw[tD _ _ n k HL.out hk];exact hlt);have f0:=hrow.out.free k;obtain⟨y,hy⟩:∃ y,(hbs s.data.toList k++L0.drop k).getD k 0=y:=⟨_,rfl⟩;rw[hy] at c0;clear hy;have g0:=nM s (2*k) p0;have g1:=nM s (2*k+1) p1;have hl0:=vO s[2*k];have hl1:=vO s[2*k+1];obtain⟨x,hx⟩:∃ x,qT s[2*k]=x:=⟨_,rfl⟩;obtain⟨z,hz⟩:∃ z,qT s[2*k+1]=z:=⟨_,rfl⟩;have HO1:Hid (SY s.data.toList k=(decide (x<16) && decide (z<16))):=by show _=_;unfold SY;rw[g0,g1,hx,hz]
    have HBY:Hid (hby s.data.toList k=((16*x+z:Nat):Int)):=by show _=_;unfold hby;rw[g0,g1,hx,hz]
    have HC0:=zh (fun w=>MH s[2*k] w);have HC1:=zh (fun w=>MH s[2*k+1] w);rw[hx] at HC0 hl0;rw[hz] at HC1 hl1;have YK:=zh (TW s.data.toList L0 n k HL.out hlt);have XF:=zh (DY s.data.toList k);clear g0 g1 hx hz;have mL:=hrow;have HGR:=hgr;clear hrow hgr;by_cases hbad:x=16∨z=16
    ·have HF:Hid ((decide (s.size=2*n) && hok s.data.toList n)=false):=by
      show _=_;rw[ME (k:=k) (by rw[HO1.out];rcases hbad with h | h <;> simp[h]) hlt,Bool.and_false]
     have HWL:=zh (tD s.data.toList L0 n k HL.out hk);have main:∀ (hi lo:Int),(if x=16 then (-1:Int) else (x:Int))=hi→(if z=16 then (-1:Int) else (z:Int))=lo→hi<0∨(¬ hi<0∧lo<0):=by
      intro hi lo h1 h2;rcases hbad with h | h
      ·left;rw[if_pos h] at h1;omega
      ·by_cases hh:x=16
       ·left;rw[if_pos hh] at h1;omega
       ·right;rw[if_neg hh] at h1;rw[if_pos h] at h2;exact⟨by omega,by omega⟩
     obtain⟨hi,hhi⟩:∃ v,(if x=16 then (-1:Int) else (x:Int))=v:=⟨_,rfl⟩;obtain⟨lo,hlo⟩:∃ v,(if z=16 then (-1:Int) else (z:Int))=v:=⟨_,rfl⟩;have hm:=main hi lo hhi hlo;rw[hhi] at HC0;rw[hlo] at HC1;clear main hhi hlo hbad HO1 HBY YK XF;rcases hm with hn0 | ⟨hn0,hn1⟩
     ·have e1:decide (hi<0)=true:=by simp;omega
      go_wp2_with fail;refine (HC0.out _).mono ?_;rintro e w5 ⟨rfl,rfl⟩;go_wp2_with fail;refine (HC1.out _).mono ?_;rintro e w5 ⟨rfl,rfl⟩;go_wp2_with fail;go_ret;exact⟨_,by rw[HF.out];rfl,HWL.out,mL.out,HGR.out,fun h=>by rw[HF.out] at h;cases h⟩
     ·have e1:decide (hi<0)=false:=by simp;omega
      have e2:decide (lo<0)=true:=by simp;omega
      go_wp2_with fail;refine (HC0.out _).mono ?_;rintro e w5 ⟨rfl,rfl⟩;go_wp2_with fail;refine (HC1.out _).mono ?_;rintro e w5 ⟨rfl,rfl⟩;go_wp2_with fail;go_ret;exact⟨_,by rw[HF.out];rfl,HWL.out,mL.out,HGR.out,fun h=>by rw[HF.out] at h;cases h⟩
    ·have hx16:x<16:=by omega
     have hz16:z<16:=by omega
     rw[if_neg zo] at HC0 HC1;have HOK:Hid (hok s.data.toList (k+1)=true):=by show _=_;rw[XF.out,hok0.out,HO1.out,decide_eq_true hx16,decide_eq_true hz16];rfl
     have hor:=VC x z hx16 hz16;obtain⟨m,hm⟩:∃ m,16*x+z=m:=⟨_,rfl⟩;rw[hm] at HBY hor;have hm256:m<256:=by omega
     have hw1:((m:Nat):Int) % 256=(m:Int):=by omega
     have e1:decide ((x:Int)<0)=false:=by simp
     have e2:decide ((z:Int)<0)=false:=by simp
     clear HO1 XF hbad hm;go_wp2_with fail;refine (HC0.out _).mono ?_;rintro e w5 ⟨rfl,rfl⟩;go_wp2_with fail;refine (HC1.out _).mono ?_;rintro e w5 ⟨rfl,rfl⟩;go_wp2_with fail;go_roundw
     case rel =>
      refine⟨k+1,by omega,by go_num,HOK,?_,bL HGR.out _ _⟩;have:=mL.out.put k (hby s.data.toList k);rw[YK.out,HBY.out] at this;exact this
     case measure=>simp[intOf];omega
   ·obtain rfl:k=n:=by omega
    have hd:decide ((k:Int)<(k:Int))=false:=by simp
    have hall:hbs s.data.toList k++L0.drop k=hbs s.data.toList k:=by rw[List.drop_eq_nil_of_le (by rw[HL.out];exact Nat.le_refl _),List.append_nil]
    have mL:=hrow.out;rw[hall] at mL;have HT:Hid ((decide (s.size=2*k) && hok s.data.toList k)=true):=by show _=_;rw[hok0.out,decide_eq_true hsz];rfl
    have HRR:=zh mL;clear mL hall hrow hsz;go_wp2_with fail;go_ret;exact⟨_,by rw[HT.out];rfl,eN _ _,HRR.out,hgr.out,fun _=>rfl⟩
 ·have ht:((s.size:Int) != 2*(n:Int))=true:=by rw[bne_iff_ne];omega
  have hz:(decide (s.size=2*n) && hok s.data.toList n)=false:=by rw[decide_eq_false hsz];rfl
  rw[hz];clear hz hsz
  go_enter Tryz.func120,Tryz.ntmps120
  go_wp2
  go_ret;exact⟨L0,rfl,HL.out,HR.out,World.grownBy.refl _ _,fun h=>by cases h⟩
def pok (l:List UInt8) (n:Nat):Bool:=decide (l.length=2*n) && hok l n
def pby (l:List UInt8) (n:Nat):List Int:=if pok l n=true then hbs l n else List.replicate n 0
theorem gE {P:Program} {fn:Func} {p u:Tmp} {ty:TypeId} (h:fn.results=#[.cell p ty,.tmp u]) (tmps:Array Value) (w:World) (g:Nat) (t:TypeId) (cs:Array Value) (fr:Nat × Nat) (d:TypeDesc)
 (hp:tmps.getD p undef=.pointer (some ⟨g,0,none⟩)) (hg:w.heap[g]? = some (.cells cs t fr))
 (hu:P.underlying ty=some d) (hd:(match d with | .struct _ | .array _ _=>true | _=>false)=true) (hi:(P.info? ty).map (·.size)=some cs.size) :
 (results fn tmps).run P w=.ok (.tuple #[.agg cs,tmps.getD u undef]) w:=by
 rw[results_cell_tmp h,hp];simp[asAddr,run_loadVar_row w g t ty cs fr d hg hu hd hi]
def YF (n:Nat):Array Value:=((List.replicate n (0:Int)).map (Value.int .u8)).toArray
theorem bzH (w:World):(Instr.build 42 #[]).run Tryz.prog w=.ok (.agg (YF 16)) w:=by kernel_rfl
theorem oK (L:List Int) (h:L.length=16):(Tryz.prog.info? 42).map (·.size)=some (L.map (Value.int .u8)).toArray.size:=by rw[List.size_toArray,List.length_map,h];exact Tryz.info30h
theorem yB (A L:List Int) (h:A.length=L.length):(A.map (Value.int .u8)).toArray.size=(L.map (Value.int .u8)).toArray.size:=by simp[h]
theorem nX (s:ByteArray) (w:World) :
 Calls Tryz.prog 86 #[.string s] w fun e w'=>e=.returned (.tuple #[.agg ((pby s.data.toList 16).map (Value.int .u8)).toArray,.bool (pok s.data.toList 16)])∧Below w.heap.size w w':=by
 have HR:=zh (mC w 42 .u8 (List.replicate 16 0));have HB:=zh (aA w (.cells ((List.replicate 16 0).map (Value.int .u8)).toArray 42));have HSZ:=zh (aF w (.cells ((List.replicate 16 0).map (Value.int .u8)).toArray 42));have hbz:=bzH
 go_enter Tryz.func86,Tryz.ntmps86
 go_wp2_with fail;generalize hw0:World.alloc w _=w0;have hr0:RowIn w0 w.heap.size 42 .u8 (List.replicate 16 0):=by rw[←hw0];exact HR.out
 have hb0:Below w.heap.size w w0:=by rw[←hw0];exact HB.out
 have hs0:w0.heap.size=w.heap.size+1:=by rw[←hw0];exact HSZ.out
 clear hw0 HR HB HSZ;have hr1:RowIn (w0.alloc (.cells (Array.replicate 16 (Value.int .u8 0)) 42)) w0.heap.size 42 .u8 (List.replicate 16 0):=mC w0 42 .u8 (List.replicate 16 0);have hb1:=aA w0 (.cells (Array.replicate 16 (Value.int .u8 0)) 42);generalize hw1:World.alloc w0 _=w1;have hr1':RowIn w1 (w.heap.size+1) 42 .u8 (List.replicate 16 0):=by rw[←hw1,←hs0];exact hr1
 have hb1':Below w0.heap.size w0 w1:=by rw[←hw1];exact hb1
 clear hw1 hr1 hb1;have hr01:=hr0.below hb1' zo;have hbe1:=hb0.trans (hb1'.mono zo);refine (JH (w.heap.size+1) 42 (List.replicate 16 0) 16 s w1 hr1' (by simp) zo).mono ?_;rintro e w2 ⟨L,rfl,hL,hr2,hgr,hfin⟩;have HR2:=zh hr2;have HR0:=zh (hr01.grown hgr zo);have HBE:Hid (Bw w w2):=hbe1.trans ((aU hgr (by have:=hr1'.lt;omega)).mono zo);have HP:Hid (pok s.data.toList 16=(decide (s.size=2*16) && hok s.data.toList 16)):=by show _=_;unfold pok;rw[Lib.size_eq]
 have HPB:Hid (pby s.data.toList 16=if pok s.data.toList 16=true then hbs s.data.toList 16 else List.replicate 16 0):=rfl;clear hr2 hgr hr01 hbe1 hr0 hb0 hs0 hr1' hb1';generalize (decide (s.size=2*16) && hok s.data.toList 16)=bv at *;have HLL:=zh hL;clear hL
 cases bv
 ·have HPB2:Hid (pby s.data.toList 16=List.replicate 16 0):=by show _=_;rw[HPB.out,if_neg (by rw[HP.out];simp)]
  clear hfin;have HI:Hid ((Tryz.prog.info? 42).map (·.size)=some (YF 16).size):=oK (List.replicate 16 0) (by simp);have HO:Hid ((YF 16).all (·.oneCell')=true):=aW .u8 _;have HS:Hid (((List.replicate 16 (0:Int)).map (Value.int .u8)).toArray.size=(YF 16).size):=rfl
  go_wp2_with (refine wpList_store_row rfl 42 _ _ rfl w.heap.size (YF 16) rfl rfl 42 _ HR0.out HI.out HS.out HO.out ?_)
  exact bodyPost_ret (gE (P:=Tryz.prog) rfl _ _ w.heap.size 42 (YF 16) (0,0) _ rfl (setRow_heap _ _ _ _ _ _ HR0.out) Tryz.underlying42 rfl HI.out) rfl ⟨by rw[HPB2.out,HP.out];rfl,below_setRow HBE.out zl _⟩
 ·have HPB2:Hid (pby s.data.toList 16=L):=by show _=_;rw[HPB.out,if_pos HP.out,hfin rfl]
  clear hfin hbz;have HI:=zh (oK L HLL.out);have HO:=zh (aW .u8 L);have HS:=zh (yB (List.replicate 16 0) L (by rw[HLL.out];simp))
  go_wp2_with (first
   | (refine wpList_load_row rfl 42 _ rfl (w.heap.size+1) rfl 42 _ (0,0) _ HR2.out Tryz.underlying42 rfl HI.out ?_)
   | (refine wpList_store_row rfl 42 _ _ rfl w.heap.size _ rfl rfl 42 _ HR0.out HI.out HS.out HO.out ?_))
  exact bodyPost_ret (gE (P:=Tryz.prog) rfl _ _ w.heap.size 42 _ (0,0) _ rfl (HR0.out.setRow _) Tryz.underlying42 rfl HI.out) rfl ⟨by rw[HPB2.out,HP.out];rfl,below_setRow HBE.out zl _⟩
theorem mW {k:IntKind} {a b:Int} (h:a=b):Ending.returned (.int k a)=.returned (.int k b):=by rw[h]
theorem pM (c:UInt8) (w:World) :
 Calls Tryz.prog 124 #[.int .u8 (c.toNat:Int)] w fun e w'=>e=.returned (.int .i64 (qT c:Int))∧w=w':=by
 obtain⟨n,hn⟩:∃ n,c.toNat=n:=⟨_,rfl⟩;have hv:qT c=if 48≤n∧n≤57 then n-48 else if 97≤n∧n≤102 then n-87 else 16:=by unfold qT;rw[hn]
 have hlt:n<256:=by rw[←hn];exact UInt8.toNat_lt _
 rw[hn];have HV:=zh hv;clear hv hn;generalize qT c=v at *;by_cases h1:48≤n
 ·by_cases h2:n≤57
  ·have e1:decide ((n:Int) ≥ 48)=true:=by simp;omega
   have e2:decide ((n:Int)≤57)=true:=by simp;omega
   go_enter Tryz.func124,Tryz.ntmps124
   go_wp2
   go_ret;exact⟨mW (by rw[HV.out,if_pos ⟨h1,h2⟩];omega),rfl⟩
  ·have e1:decide ((n:Int) ≥ 48)=true:=by simp;omega
   have e2:decide ((n:Int)≤57)=false:=by simp;omega
   by_cases h3:97≤n
   ·have e3:decide ((n:Int) ≥ 97)=true:=by simp;omega
    by_cases h4:n≤102
    ·have e4:decide ((n:Int)≤102)=true:=by simp;omega
     go_enter Tryz.func124,Tryz.ntmps124
     go_wp2
     go_ret;exact⟨mW (by rw[HV.out,if_neg zo,if_pos ⟨h3,h4⟩];omega),rfl⟩
    ·have e4:decide ((n:Int)≤102)=false:=by simp;omega
     go_enter Tryz.func124,Tryz.ntmps124
     go_wp2
     go_ret;exact⟨mW (by rw[HV.out,if_neg zo,if_neg zo];rfl),rfl⟩
   ·have e3:decide ((n:Int) ≥ 97)=false:=by simp;omega
    go_enter Tryz.func124,Tryz.ntmps124
    go_wp2
    go_ret;exact⟨mW (by rw[HV.out,if_neg zo,if_neg zo];rfl),rfl⟩
 ·have e1:decide ((n:Int) ≥ 48)=false:=by simp;omega
  have e3:decide ((n:Int) ≥ 97)=false:=by simp;omega
  go_enter Tryz.func124,Tryz.ntmps124
  go_wp2
  go_ret;exact⟨mW (by rw[HV.out,if_neg zo,if_neg zo];rfl),rfl⟩
def TJ (w:World) (l:List UInt8) (n:Nat) (e:Ending) (w':World):Prop :=
 ∃ sp cap,e=.returned (.tuple #[.slice sp (if pok l n=true then n else 0) cap,.bool (pok l n)])∧Src w' w'.heap.size sp (if pok l n=true then n else 0) cap (if pok l n=true then hbs l n else [])∧Below w.heap.size w w'∧∀ a,sp=some a→w.heap.size≤a.block
theorem EB {l:List UInt8} {n:Nat} (h:∀ i,i<n→qT (l.getD (2*i) 0)<16∧qT (l.getD (2*i+1) 0)<16):Byt (hbs l n):=fun x hx=>by
 unfold hbs at hx;obtain⟨i,hi,rfl⟩:=List.mem_map.1 hx;have:=h i (by simpa using hi);unfold hby;omega
theorem MF {l:List UInt8} {n:Nat} (h:hok l n=true) (i:Nat) (hi:i<n):qT (l.getD (2*i) 0)<16∧qT (l.getD (2*i+1) 0)<16:=by
 unfold hok at h;have:=(List.all_eq_true.1 h) i (by simpa using hi);unfold SY at this;simpa using this
theorem JM (w:World):Src w w.heap.size none 0 0 []:=⟨rfl,(fun x hx=>by cases hx),fun h=>absurd h zo⟩
theorem yI (s:ByteArray) (n:Nat) (w:World) (hn:n≤64) :
 Calls Tryz.prog 90 #[.string s,.int .i64 (n:Int)] w (TJ w s.data.toList n):=by
 by_cases hsz:s.size=2*n
 ·have HPK:Hid (pok s.data.toList n=hok s.data.toList n):=by show _=_;unfold pok;rw[←Lib.size_eq,decide_eq_true hsz];rfl
  have ht:((s.size:Int) != 2*(n:Int))=false:=by rw[bne_eq_false_iff_eq];omega
  go_enter Tryz.func90,Tryz.ntmps90
  go_wp2_with fail
  go_loopw [6,7] (fun v i wr=>∃ (k N:Nat) (sp':Option Addr) (cap':Nat),k≤n∧i=.int .i64 k∧Hid (N=k)∧N≤64∧v=.slice sp' N cap'∧Hid (hok s.data.toList k=true)∧Hid (wr.ownsRow w.heap.size 5 1 (.slice sp' N cap') N ((hbs s.data.toList k).map (Value.int .u8)))∧Hid (Below w.heap.size w wr)) (fun _ i _=>n-(intOf i).toNat)
  case atStart=>exact⟨0,0,none,0,by omega,rfl,rfl,by omega,rfl,rfl,World.ownsRow_nil _ _ _ _,Below.refl _ _⟩
  case round =>
   obtain⟨k,N,sp',cap',hk,rfl,hN,hNb,rfl,hok0,hown,hbe⟩:=hrel;have hwz:=hbe.out.size;by_cases hlt:k<n
   ·have hd:decide ((k:Int)<(n:Int))=true:=by simp;omega
    have p0:2*k<s.size:=by omega
    have p1:2*k+1<s.size:=by omega
    have p2:(0:Int)≤(k:Int):=by omega
    have p4:(0:Int)≤2*(k:Int):=by omega
    have p5:2*(k:Int)<(s.size:Int):=by omega
    have p6:(0:Int)≤2*(k:Int)+1:=by omega
    have p7:2*(k:Int)+1<(s.size:Int):=by omega
    have p8:(2*(k:Int)).toNat=2*k:=by omega
    have p9:(2*(k:Int)+1).toNat=2*k+1:=by omega
    have q1:IntKind.i64.wrap (2*(k:Int))=2*(k:Int):=IntWalk.i64_in _ zo;have q2:IntKind.i64.wrap (2*(k:Int)+1)=2*(k:Int)+1:=IntWalk.i64_in _ zo;have g0:=nM s (2*k) p0;have g1:=nM s (2*k+1) p1;have hl0:=vO s[2*k];have hl1:=vO s[2*k+1];obtain⟨x,hx⟩:∃ x,qT s[2*k]=x:=⟨_,rfl⟩;obtain⟨z,hz⟩:∃ z,qT s[2*k+1]=z:=⟨_,rfl⟩;have HO1:Hid (SY s.data.toList k=(decide (x<16) && decide (z<16))):=by show _=_;unfold SY;rw[g0,g1,hx,hz]
    have HBY:Hid (hby s.data.toList k=((16*x+z:Nat):Int)):=by show _=_;unfold hby;rw[g0,g1,hx,hz]
    have HC0:=zh (fun w=>pM s[2*k] w);have HC1:=zh (fun w=>pM s[2*k+1] w);rw[hx] at HC0 hl0;rw[hz] at HC1 hl1;have XF:=zh (DY s.data.toList k);have HBS:=zh (DZ s.data.toList k);have HLN:Hid (N=(hbs s.data.toList k).length):=by show _=_;rw[eN];exact hN.out
    clear g0 g1 hx hz;by_cases hbad:x=16∨z=16
    ·have HF:Hid (pok s.data.toList n=false):=by show _=_;rw[HPK.out,ME (k:=k) (by rw[HO1.out];rcases hbad with h | h <;> simp[h]) hlt]
     have e1:(((x:Int) == 16) || ((z:Int) == 16))=true:=by rcases hbad with h | h <;> simp[h]
     have hcs:((x:Int) == 16)=true∨(((x:Int) == 16)=false∧((z:Int) == 16)=true):=by
      by_cases h:x=16
      ·left;simp[h]
      ·right;rcases hbad with h2 | h2
       ·exact absurd h2 h
       ·exact⟨by simp;omega,by simp[h2]⟩
     clear hbad HO1 HBY XF e1;rcases hcs with e1 | ⟨e1,e2⟩
     all_goals
      go_wp2_with fail
      go_region_held3 (fun _=>True) (trivial) (first
       | (go_at_call 124;(with_reducible refine (HC0.out _).mono ?_);rintro e w5 ⟨rfl,rfl⟩)
       | (go_at_call 124;(with_reducible refine (HC1.out _).mono ?_);rintro e w5 ⟨rfl,rfl⟩))
      all_goals
       go_wp2_with fail;go_ret2;refine⟨none,0,?_,?_,hbe.out.drew,fun a h=>by cases h⟩
       ·rw[HF.out];rfl
       ·rw[HF.out];exact JM _
    ·have hx16:x<16:=by omega
     have hz16:z<16:=by omega
     have e1:((x:Int) == 16)=false:=by simp;omega
     have e2:((z:Int) == 16)=false:=by simp;omega
     have HOK:Hid (hok s.data.toList (k+1)=true):=by show _=_;rw[XF.out,hok0.out,HO1.out,decide_eq_true hx16,decide_eq_true hz16];rfl
     obtain⟨m,hm⟩:∃ m,16*x+z=m:=⟨_,rfl⟩;rw[hm] at HBY;have hm256:m<256:=by omega
     have r1:16*(x:Int)+(z:Int)=(m:Int):=by omega
     have r2:((m:Nat):Int) % 256=(m:Int):=by omega
     clear HO1 XF hbad hm;go_wp2_with fail
     go_region_held3 (fun _=>True) (trivial) (first
      | (go_at_call 124;(with_reducible refine (HC0.out _).mono ?_);rintro e w5 ⟨rfl,rfl⟩)
      | (go_at_call 124;(with_reducible refine (HC1.out _).mono ?_);rintro e w5 ⟨rfl,rfl⟩))
     all_goals
      go_wp2_with (at_builtin;refine cR rfl (.tmp 37) (.tmp 43) 22 5 rfl Tryz.underlying22 Tryz.info5a w.heap.size _ (hbs s.data.toList k) N rfl HLN.out (hown.out.drew.alloc _) wr.heap.size (m:Int) rfl (by simp) zo (by simp;omega) ?_;intro sp5 cap5 w5 hown5 hg5)
      have hbe5:=(hbe.out.drew.alloc hwz (.cells #[.int .u8 (m:Int)] 5)).grown hg5 (by simp;omega) (dQ hown.out);go_roundw
      case rel =>
       refine⟨k+1,N+1,sp5,cap5,by omega,by go_num,by show _=_;have:=hN.out;omega,by have:=hN.out;omega,rfl,HOK,?_,hbe5⟩;have:=hown5.out;show World.ownsRow _ _ _ _ _ _ _;rw[HBS.out,HBY.out];exact this
      case measure=>simp[intOf];omega
   ·obtain rfl:k=n:=by omega
    have hd:decide ((k:Int)<(k:Int))=false:=by simp
    have HT:Hid (pok s.data.toList k=true):=by show _=_;rw[HPK.out,hok0.out]
    have hN2:=hN.out;have hln:(hbs s.data.toList k).length=N:=by rw[eN];exact hN2.symm
    have ho:wr.ownsRow w.heap.size 5 1 (.slice sp' N cap') (hbs s.data.toList k).length ((hbs s.data.toList k).map (Value.int .u8)):=by rw[hln];exact hown.out
    obtain⟨sp7,cap7,e7,hsrc,_⟩:=eK ho (EB (fun i hi=>MF hok0.out i hi));rw[hln] at e7 hsrc;injection e7 with e1 e2 e3
    subst e1 e3;rw[hN2] at hsrc;have xD:=zh hsrc;have HBS:Hid (∀ a,sp'=some a→w.heap.size≤a.block):=fun a ha=>dQ ho a.block (by rw[ha];rfl);have HN:=zh hN2;clear hsrc ho hln hN2 hN hown hsz;go_wp2_with fail;go_ret2;refine⟨sp',cap',?_,?_,hbe.out,HBS.out⟩
    ·rw[HT.out,if_pos rfl,←HN.out];rfl
    ·rw[HT.out,if_pos rfl,if_pos rfl];exact xD.out
 ·have ht:((s.size:Int) != 2*(n:Int))=true:=by rw[bne_iff_ne];omega
  have hz:pok s.data.toList n=false:=by unfold pok;rw[←Lib.size_eq,decide_eq_false hsz];rfl
  unfold TJ;rw[hz];clear hz hsz
  go_enter Tryz.func90,Tryz.ntmps90
  go_wp2
  go_ret2;exact⟨none,0,rfl,JM _,Below.refl _ _,fun a h=>by cases h⟩
end Go.Proofs.YtaeobegaodhpcaaGreatDoor
