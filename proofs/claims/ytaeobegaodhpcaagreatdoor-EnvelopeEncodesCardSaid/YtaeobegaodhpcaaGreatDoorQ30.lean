/-
  The walks of the reference's value and Unword: which word an encoded form stands for (for every string of at most 2^40 bytes).
-/
import Derived.Test.YtaeobegaodhpcaaGreatDoorZip
import Derived.Test.YtaeobegaodhpcaaGreatDoorQ26
set_option maxRecDepth 100000
set_option maxHeartbeats 8000000
namespace Go.Proofs.YtaeobegaodhpcaaGreatDoor
open Go.RowKit
theorem JB (c:UInt8) (w:World) :
 Calls Tryz.prog 89 #[.int .u8 (c.toNat:Int)] w fun e w'=>e=.returned (.int .i64 (lL c:Int))∧w=w':=by
 have hc:c.toNat<256:=UInt8.toNat_lt _;have HV:=zh (show lL c=if 48≤c.toNat∧c.toNat≤57 then c.toNat-48 else if 65≤c.toNat∧c.toNat≤70 then c.toNat-55 else 16 from rfl);generalize lL c=v at *;generalize c.toNat=n at *;by_cases h1:48≤n∧n≤57
 ·rw[if_pos h1] at HV;obtain⟨h1a,h1b⟩:=h1
  go_enter Tryz.func89,Tryz.ntmps89
  go_wp2
  go_ret;exact⟨kI (by rw[HV.out];omega),rfl⟩
 ·rw[if_neg h1] at HV;by_cases h2:65≤n∧n≤70
  ·rw[if_pos h2] at HV;obtain⟨h2a,h2b⟩:=h2;clear h1
   go_enter Tryz.func89,Tryz.ntmps89
   go_wp2
   go_ret;exact⟨kI (by rw[HV.out];omega),rfl⟩
  ·rw[if_neg h2] at HV
   go_enter Tryz.func89,Tryz.ntmps89
   go_wp2
   all_goals first
    | (exfalso;omega)
    | (go_ret;exact⟨kI (by rw[HV.out];rfl),rfl⟩)
theorem ZK {P:Program} {f:FuncId} {args:Array Value} {w:World} {n:Nat} {v:Value}
 (h:Calls P f args (w.drewN n) fun e w'=>e=.returned v∧w.drewN n=w'):Calls P f args (w.drewN n) fun e w''=>e=.returned v∧∃ m,w''=w.drewN m :=
 h.mono fun _ _ ⟨he,hm⟩=>⟨he,n,hm.symm⟩
theorem MN {s:ByteArray} {k:Nat} (h:s.size<k+3):uB (s.data.toList.drop (k+1))=none:=by
 have hl:(s.data.toList.drop (k+1)).length<2:=by rw[List.length_drop,←Lib.size_eq];omega
 match s.data.toList.drop (k+1),hl with
 | [],_=>rfl
 | [_],_=>rfl
theorem QS {s:ByteArray} {k:Nat} (h:k+3≤s.size):uB (s.data.toList.drop (k+1))=WC (s[k+1]'(by omega)) (s[k+2]'(by omega)):=by
 rw[dM s (k+1) zo,dM s (k+2) zo];rfl
theorem vA (s:ByteArray) (w:World) (hs:s.size≤1099511627776) :
 Calls Tryz.prog 52 #[.string s] w (EV (eD s.data.toList) w):=by
 by_cases h0:s.size=0
 ·have HR:=zh (show eD s.data.toList=none by rw[jR h0];rfl);have e0:s.toList=[]:=by rw[Lib.toList_data];exact jR h0
  generalize eD s.data.toList=r at *;clear h0
  go_enter Tryz.func52,Tryz.ntmps52
  go_wp2_with fail;go_ret2;exact⟨by rw[HR.out];rfl,Below.refl _ _⟩
 ·have hne:=uG h0;have e0:s.toList.isEmpty=false:=by
   rw[Lib.toList_data,List.isEmpty_eq_false_iff];exact hne
  by_cases ht:s.data.toList=[126]
  ·have HR:=zh (show eD s.data.toList=some [] by rw[ht];rfl);have e1:(s.toList == [126])=true:=by rw[Lib.toList_data,ht];rfl
   generalize eD s.data.toList=r at *;clear h0 hne ht
   go_enter Tryz.func52,Tryz.ntmps52
   go_wp2_with fail;go_ret2;exact⟨by rw[HR.out];rfl,Below.refl _ _⟩
  ·have HR:=zh (show eD s.data.toList=(kB (s.data.toList.drop 0)).map ([] ++ ·) by
    unfold eD;rw[if_neg hne,if_neg ht,List.drop_zero];simp)
   have e1:(s.toList == [126])=false:=by rw[Lib.toList_data,beq_eq_false_iff_ne];exact ht
   generalize eD s.data.toList=r at *;obtain⟨i0,hi0,hz0,hz1,hz2⟩:=info_parts Tryz.info5;have HI0:=zh hi0;have HZ0:=zh hz0;have HZ1:=zh hz1;have HZ2:=zh hz2;clear hi0 hz0 hz1 hz2 h0 hne ht
   go_enter Tryz.func52,Tryz.ntmps52
   go_wp2_with fail
   go_loopw [4,5] (fun v i wr=>∃ (k:Nat) (acc:List UInt8),k≤s.size∧i=.int .i64 k∧acc.length≤k∧Hid (r=(kB (s.data.toList.drop k)).map (acc ++ ·))∧Hid (wr.ownsRow w.heap.size 5 1 v acc.length (Lib.byteCells acc))∧Below w.heap.size w wr) (fun _ i _=>s.size-(intOf i).toNat)
   case atStart=>exact⟨0,[],by omega,rfl,by simp,HR.out,World.ownsRow_nil _ _ _ _,Below.refl _ _⟩
   case round =>
    clear HR;obtain⟨k,acc,hk,rfl,hal,HA,hown,hbe⟩:=hrel;have hbs:=hbe.size;by_cases hlt:k<s.size
    ·cases hp:lU (s[k].toNat)
     ·by_cases h37:s[k]=37
      ·have b37:((s[k].toNat:Int) == 37)=true:=by rw[h37];rfl
       have b37n:((s[k].toNat:Int) != 37)=false:=by rw[h37];rfl
       by_cases h3:s.size<k+3
       ·have HN:=zh (kE hlt HA.out h37 (MN h3));have HP:=zh hp;clear hp h37 HA
        go_wp2_with (go_at_call 81;refine (dB _ _).mono ?_;rintro e w' ⟨rfl,rfl⟩;rw[HP.out])
        go_ret2;exact⟨by rw[HN.out];rfl,hbe⟩
       ·have hk1:k+1<s.size:=by omega
        have hk2:k+2<s.size:=by omega
        have HEL:=zh (QS (s:=s) (k:=k) zo);have HB:=zh (fun h=>kE hlt HA.out h37 h);have HY:=zh (fun v h=>pH (v:=v) hlt HA.out h37 h);have hl0:=vP s[k+1];have hl1:=vP s[k+2];have HV:=zh (show WC s[k+1] s[k+2]=if lL s[k+1]=16∨lL s[k+2]=16 then none else if lU ((16*lL s[k+1]+lL s[k+2]:Nat):Int) then none else some (UInt8.ofNat (16*lL s[k+1]+lL s[k+2])) from rfl);have HP:=zh hp;clear hp h37 HA;have q1:IntKind.i64.wrap ((k:Int)+1)=(k:Int)+1:=IntWalk.i64_in _ zo;have q2:IntKind.i64.wrap ((k:Int)+2)=(k:Int)+2:=IntWalk.i64_in _ zo;have q3:(0:Int)≤(k:Int)+1:=by omega
        have q4:(0:Int)≤(k:Int)+2:=by omega
        have q5:((k:Int)+1).toNat=k+1:=by omega
        have q6:((k:Int)+2).toNat=k+2:=by omega
        have q7:(k:Int)+1<(s.size:Int):=by omega
        have q8:(k:Int)+2<(s.size:Int):=by omega
        go_wp2_with (go_at_call 81;refine (dB _ _).mono ?_;rintro e w' ⟨rfl,rfl⟩;rw[HP.out])
        go_quiet ((go_at_call 89;exact ZK (JB _ _)))
        generalize s[k+1]=b1 at *;generalize s[k+2]=b2 at *;clear q1 q2 q3 q4 q5 q6 q7 q8;generalize lL b1=x at *;generalize lL b2=y at *;generalize uB (s.data.toList.drop (k+1))=ed at *;generalize WC b1 b2=ev at *;generalize hwq:wr.drewN _=wq;have hownq:Hid (wq.ownsRow w.heap.size 5 1 u4 acc.length (Lib.byteCells acc)):=by show World.ownsRow _ _ _ _ _ _ _;rw[←hwq];exact hown.out
        have hbq:Below w.heap.size w wq:=by rw[←hwq];exact below_drewN hbe _
        have hbsq:=hbq.size;clear hwq hown hbe hbs;by_cases hx:x=16
        ·have HN:Hid (r=none):=HB.out (by rw[HEL.out,HV.out,if_pos (.inl hx)]);have bx:((x:Int) == 16)=true:=beq_iff_eq.2 zo;clear hx;go_wp2_with fail;go_ret2;exact⟨by rw[HN.out];rfl,hbq⟩
        ·have bx:((x:Int) == 16)=false:=beq_eq_false_iff_ne.2 zo;by_cases hy:y=16
         ·have HN:Hid (r=none):=HB.out (by rw[HEL.out,HV.out,if_pos (.inr hy)]);have by_:((y:Int) == 16)=true:=beq_iff_eq.2 zo;clear hy hx;go_wp2_with fail;go_ret2;exact⟨by rw[HN.out];rfl,hbq⟩
         ·have by_:((y:Int) == 16)=false:=beq_eq_false_iff_ne.2 zo;have hcast:((16*x+y:Nat):Int)=16*(x:Int)+(y:Int):=by omega
          have hlt2:16*x+y<256:=by omega
          have HV2:Hid (ed=if lU (16*(x:Int)+(y:Int)) then none else some (UInt8.ofNat (16*x+y))):=by
           show _=_;rw[HEL.out,HV.out,if_neg (fun h=>h.elim hx hy),hcast]
          have hv:((UInt8.ofNat (16*x+y)).toNat:Int)=16*(x:Int)+(y:Int):=by
           rw[UInt8.toNat_ofNat_of_lt' (by exact hlt2)];omega
          have HVV:=zh hv;have hx15:x≤15:=by omega
          have hy15:y≤15:=by omega
          clear hcast hx hy hv
          cases hp2:lU (16*(x:Int)+(y:Int))
          ·rw[hp2] at HV2;obtain⟨_,hn⟩:=HY.out (UInt8.ofNat (16*x+y)) (by rw[HV2.out];rfl);have HN:=zh hn;have HP2:=zh hp2;clear hp2 hn;generalize UInt8.ofNat (16*x+y)=c at *
           go_wp2_with (first
            | (go_at_call 81;refine (dB _ _).mono ?_;rintro e w' ⟨rfl,rfl⟩;rw[HP2.out])
            | (at_builtin;refine wpList_append_own _ rfl (.tmp 63) (.tmp 69) 22 rfl w.heap.size 5 i0 (.int .u8 0) 1 1 Tryz.underlying22 HI0.out HZ0.out HZ1.out HZ2.out rfl (by decide) _ _ _ rfl (hownq.out.alloc _) ⟨wq.heap.size,0,none⟩ 1 1 [.int .u8 (16*(x:Int)+(y:Int))] rfl rfl (cell_one_new _ _ _) (by intro u hu;simp at hu;subst hu;rfl) (by unfold maxLen;omega) zo (by simp;omega) ?_;intro v' w1 hown1 hg1 _;have HO1:=zh hown1;clear hown1))
           go_roundw
           case rel =>
            refine⟨k+3,acc++[c],by omega,by go_num,by simp;omega,HN.out,?_,(hbq.alloc hbsq _).grown hg1 (by simp;omega) (dG hownq.out)⟩;have:=HO1.out;rw[←HVV.out] at this;show World.ownsRow _ _ _ _ _ _ _;simpa [Lib.byteCells_append,Lib.byteCells,Nat.add_assoc] using this
           case measure=>simp[intOf];omega
          ·rw[hp2] at HV2;have HN:Hid (r=none):=HB.out (by rw[HV2.out];rfl);have HP2:=zh hp2;clear hp2
           go_wp2_with (go_at_call 81;refine (dB _ _).mono ?_;rintro e w' ⟨rfl,rfl⟩;rw[HP2.out])
           go_ret2;exact⟨by rw[HN.out];rfl,hbq⟩
      ·have b37:((s[k].toNat:Int) != 37)=true:=by
        rw[bne_iff_ne];intro h;exact h37 (UInt8.toNat_inj.1 (by show s[k].toNat=37;omega))
       have HN:=zh (lR hlt HA.out hp h37);have HP:=zh hp;clear hp h37 HA
       go_wp2_with (go_at_call 81;refine (dB _ _).mono ?_;rintro e w' ⟨rfl,rfl⟩;rw[HP.out])
       go_ret2;exact⟨by rw[HN.out];rfl,hbe⟩
     ·have HN:=zh (lQ hlt HA.out hp);have HP:=zh hp;clear hp HA
      go_wp2_with (first
       | (go_at_call 81;refine (dB _ _).mono ?_;rintro e w' ⟨rfl,rfl⟩;rw[HP.out])
       | (at_builtin;refine wpList_append_own _ rfl (.tmp 22) (.tmp 26) 22 rfl w.heap.size 5 i0 (.int .u8 0) 1 1 Tryz.underlying22 HI0.out HZ0.out HZ1.out HZ2.out rfl (by decide) _ _ _ rfl (hown.out.alloc _) ⟨wr.heap.size,0,none⟩ 1 1 [.int .u8 (s[k].toNat:Int)] rfl rfl (cell_one_new _ _ _) (by intro u hu;simp at hu;subst hu;rfl) (by unfold maxLen;omega) zo (by simp;omega) ?_;intro v' w1 hown1 hg1 _;have HO1:=zh hown1;clear hown1))
      go_roundw
      case rel =>
       refine⟨k+1,acc++[s[k]],by omega,by go_num,by simp;omega,HN.out,?_,(hbe.alloc hbs _).grown hg1 (by simp;omega) (dG hown.out)⟩;have:=HO1.out;show World.ownsRow _ _ _ _ _ _ _;simpa [Lib.byteCells_append,Lib.byteCells,Nat.add_assoc] using this
      case measure=>simp[intOf];omega
    ·obtain rfl:k=s.size:=by omega
     have HN:=zh (JF HA.out);have hcv:=iB hown.out;clear HA;go_wp2_with fail;go_ret2;exact⟨by rw[HN.out];rfl,hbe⟩
theorem NN (s:ByteArray) (w:World) (hs:s.size≤1099511627776) :
 Calls Tryz.prog 52 #[.string s] w fun e w'=>(match JG s with | some x=>e=.returned (.tuple #[.string x,.bool true]) | none=>e=.returned (.tuple #[.string ⟨#[]⟩,.bool false]))∧Below w.heap.size w w' :=
 (vA s w hs).mono fun e w' h=>by
  unfold EV at h;unfold JG
  cases hu:eD s.data.toList with
  | none=>rw[hu] at h;exact h
  | some l=>rw[hu] at h;exact h
theorem OT (l:List UInt8) (k:Nat):(⟨(l.take k).toArray⟩:ByteArray)=(⟨l.toArray⟩:ByteArray).extract 0 k:=by
 apply ByteArray.ext;apply Array.ext';rw[ByteArray.data_extract,Array.toList_extract,List.extract_eq_take_drop];simp
theorem vB (sp:Option Addr) (n cap:Nat) (l:List UInt8) (w:World) (hs:BSrc w w.heap.size sp n cap l) :
 Calls Tryz.prog 26 #[.slice sp n cap] w (OB w (qJ ⟨l.toArray⟩)):=by
 have hlen:(⟨l.toArray⟩:ByteArray).size=n:=by rw[Lib.size_eq];exact hs.len
 by_cases hbig:262144<n
 ·have hd:decide ((n:Int)>262144)=true:=by simp;omega
  have HR:Hid (qJ ⟨l.toArray⟩=(3,[])):=by show _=_;unfold qJ;rw[if_pos zo]
  clear hbig hlen
  go_enter Tryz.func26,Tryz.ntmps26
  go_wp2_with fail;go_ret2;exact fK HR.out rfl (Below.refl _ _)
 have hd:decide ((n:Int)>262144)=false:=by simp;omega
 have HR0:Hid (qJ ⟨l.toArray⟩=match vE ⟨l.toArray⟩ with | none=>(2,[]) | some L=>if chk L=0 then (0,L) else (2,[])):=by show _=_;unfold qJ;rw[if_neg zo];cases vE ⟨l.toArray⟩ <;> rfl
 by_cases h0:n=0
 ·have hl:l=[]:=List.eq_nil_of_length_eq_zero (by rw[hs.len];exact h0);subst h0 hl;have HR:Hid (qJ ⟨([]:List UInt8).toArray⟩=(0,[])):=by show _=_;rw[HR0.out];rfl
  clear hs hbig
  go_enter Tryz.func26,Tryz.ntmps26
  go_wp2_with fail;go_ret2;exact fK HR.out rfl (Below.refl _ _)
 have hnb:n≤262144:=by omega
 have e0:((n:Int) == 0)=false:=by simp;omega
 obtain⟨bb,off,rfl,hbb,hcap,hc⟩:=hs.cells zo;have hll:=hs.len;have hlt1:n-1<l.length:=by omega
 have c1:=hc (n-1) hlt1;have q0:(0:Int)≤(n:Int)-1:=by omega
 have q1:(n:Int)-1<(n:Int):=by omega
 have q2:((n:Int)-1).toNat=n-1:=by omega
 have q3:(n:Int)-1≤(cap:Int):=by omega
 have hend:EF ⟨l.toArray⟩=decide (l[n-1]=10):=by
  unfold EF;rw[decide_eq_decide];show l.getLast? = some 10↔_;rw[List.getLast?_eq_getElem?,hll,List.getElem?_eq_getElem hlt1];simp
 have hne:(⟨l.toArray⟩:ByteArray).data.toList≠[]:=by show l≠[];intro h;rw[h] at hll;exact h0 hll.symm
 by_cases hlast:l[n-1]=10
 ·have t1:((l[n-1].toNat:Int) != 10)=false:=by rw[hlast];rfl
  have hsrc:BSrc w w.heap.size (some ⟨bb,off,none⟩) (n-1) cap (l.take (n-1)):=⟨by rw[List.length_take];omega,fun _=>⟨bb,off,rfl,hbb,by omega,fun j hj=>by
   rw[List.length_take] at hj;rw[hc j zo];simp⟩⟩
  have hcv:=cU (c2:=cap) hsrc;rw[OT] at hcv;obtain⟨T,hT⟩:∃ T:ByteArray,(⟨l.toArray⟩:ByteArray).extract 0 (n-1)=T:=⟨_,rfl⟩;rw[hT] at hcv;have htz:T.size≤10000000:=by rw[←hT,ByteArray.size_extract];omega
  have hrd:vE ⟨l.toArray⟩=oG (pcs 10 T):=by unfold vE;rw[if_neg hne,if_pos (by rw[hend,hlast];rfl),hlen,hT]
  have HEN:Hid (∀ L,vE ⟨l.toArray⟩=some L→(enc L).1=chk L):=fun L h=>PR h zo;have HRD:=zh hrd;have HS:=zh (fun w=>lA T 10 w htz);have hpl:=rR 10 T;have hpc:=vH 10 T;obtain⟨n1,hn1⟩:∃ n1,Lib.countB T (eQ 10)+1=n1:=⟨_,rfl⟩;have hn1b:n1≤10000001:=by omega
  have HPZ:Hid (∀ x ∈ pcs 10 T,x.size≤10000000):=fun x hx=>Nat.le_trans (qP 10 T x hx) htz;rw[hn1] at HS hpl;have HPL:=zh hpl;have HW1:Hid (∀ w1,w1=w.alloc (.cells ((pcs 10 T).map Value.string).toArray 9)→Below w.heap.size w w1∧w.heap.size<w1.heap.size∧∀ j (hj:j<(pcs 10 T).length),w1.cell? ⟨w.heap.size,j,none⟩=some (.string (pcs 10 T)[j])):=by
   rintro w1 rfl;refine⟨hF _ _,by simp,fun j hj=>?_⟩;rw[cell_of_row _ w.heap.size j _ _ (0,0) (heap_alloc_new w _)];simp[hj]
  clear hT htz hrd hend hne hlen hs hll hsrc hc hbig hpc hn1 hpl
  go_enter Tryz.func26,Tryz.ntmps26
  go_wp2_with fail;refine (HS.out _).mono ?_;rintro e w1 ⟨rfl,hw⟩;obtain⟨hb1,hg1,hrow⟩:=HW1.out w1 hw;have HB1:=zh hb1;have mL:=zh hrow;clear hw hb1 hrow HW1 hcv c1 q0 q1 q2 q3 HS t1;go_wp2_with fail;have HB0:=zh (Below.refl w1.heap.size w1)
  go_loopw [5,6] (fun v i wr=>∃ (k:Nat) (done:List Ln) (sp:Option Addr) (cap:Nat),k≤n1∧i=.int .i64 k∧Hid (k=done.length)∧v=.slice sp k cap∧Hid (oG (pcs 10 T)=(oG ((pcs 10 T).drop k)).map (aD done ++ ·))∧Hid (wr.ownsRow w1.heap.size 55 1 (.slice sp k cap) k (done.map Ln.val))∧Hid (∀ q ∈ done,kU wr w1.heap.size q)∧Hid (Below w1.heap.size w1 wr)) (fun _ i _=>n1-(intOf i).toNat)
  case atStart=>exact⟨0,[],none,0,Nat.zero_le _,rfl,rfl,rfl,by show _=_;simp[aD],World.ownsRow_nil _ _ _ _,(fun q hq=>by cases hq),HB0.out⟩
  case round =>
   clear HB0;obtain⟨k,done,sp2,cap2,hk,rfl,HK,rfl,HRX,hown,hea,hbe⟩:=hrel;obtain⟨wx,hwx⟩:∃ wx,wx=wr:=⟨_,rfl⟩;subst hwx;have hbs:=hbe.out.size;by_cases hlt:k<n1
   ·have hd1:decide ((k:Int)<(n1:Int))=true:=by simp;omega
    have p1:(0:Int)≤(k:Int):=by omega
    have p2:(k:Int)<(n1:Int):=by omega
    have hlw:k<(pcs 10 T).length:=by rw[HPL.out];exact hlt
    have c1:=(hbe.out.cell (p:=⟨w.heap.size,k,none⟩) hg1).trans (mL.out k hlw);have hdr:(pcs 10 T).drop k=(pcs 10 T)[k] :: (pcs 10 T).drop (k+1):=List.drop_eq_getElem_cons hlw;have hxz:=HPZ.out _ (List.getElem_mem hlw);obtain⟨x,hx⟩:∃ x,(pcs 10 T)[k]=x:=⟨_,rfl⟩;rw[hx] at c1 hdr hxz;have HDR:=zh hdr;have HSX:=zh (fun w=>lA x 32 w hxz);have hpl:=rR 32 x;have hpc:=vH 32 x;have hpz:=qP 32 x;obtain⟨n2,hn2⟩:∃ n2,Lib.countB x (eQ 32)+1=n2:=⟨_,rfl⟩;have hn2b:n2≤10000001:=by omega
    rw[hn2] at HSX hpl;have HPL2:=zh hpl;have HPZ2:Hid (∀ y ∈ pcs 32 x,y.size≤1099511627776):=fun y hy=>Nat.le_trans (hpz y hy) zo;have HWP:Hid (∀ wp,wp=wx.alloc (.cells ((pcs 32 x).map Value.string).toArray 9)→Below wx.heap.size wx wp∧wx.heap.size<wp.heap.size∧∀ j (hj:j<(pcs 32 x).length),wp.cell? ⟨wx.heap.size,j,none⟩=some (.string (pcs 32 x)[j])):=by
     rintro wp rfl;refine⟨hF _ _,by simp,fun j hj=>?_⟩;rw[cell_of_row _ wx.heap.size j _ _ (0,0) (heap_alloc_new wx _)];simp[hj]
    clear hx hdr hxz hpc hpz hn2 hpl hlw;go_wp2_with fail;refine (HSX.out _).mono ?_;rintro e wp ⟨rfl,hw⟩;obtain⟨hbp,hgp,hrow⟩:=HWP.out wp hw;have HBP:=zh hbp;have HROW2:=zh hrow;have HWN:=zh (dL hown.out hbp);have HEA:Hid (∀ q ∈ done,kU wp w1.heap.size q):=fun q hq=>dL (hea.out q hq) hbp;have HBE:=zh (hbe.out.trans (hbp.mono hbs));clear hw hbp hrow HWP HSX c1 hown hea hbe hbs;have hwp1:w1.heap.size≤wp.heap.size:=HBE.out.size;go_wp2_with fail;have HB0:=zh (Below.refl wp.heap.size wp)
    go_loopw [8,9] (fun v i wr=>∃ (j:Nat) (dw:List ByteArray) (sp:Option Addr) (cap:Nat),j≤n2∧i=.int .i64 j∧Hid (j=dw.length)∧v=.slice sp j cap∧Hid (eF (pcs 32 x)=(eF ((pcs 32 x).drop j)).map (dw ++ ·))∧Hid (wr.ownsRow wp.heap.size 9 1 (.slice sp j cap) j (dw.map Value.string))∧Hid (Below wp.heap.size wp wr)) (fun _ i _=>n2-(intOf i).toNat)
    case atStart=>exact⟨0,[],none,0,Nat.zero_le _,rfl,rfl,rfl,by show _=_;simp,World.ownsRow_nil _ _ _ _,HB0.out⟩
    case round =>
     clear HB0;obtain⟨j,dw,sp3,cap3,hj,rfl,HJ,rfl,HRW,hown,hbe⟩:=hrel;have hbs:=hbe.out.size;by_cases hlt2:j<n2
     ·have hd2:decide ((j:Int)<(n2:Int))=true:=by simp;omega
      have p3:(0:Int)≤(j:Int):=by omega
      have p4:(j:Int)<(n2:Int):=by omega
      have hlw:j<(pcs 32 x).length:=by rw[HPL2.out];exact hlt2
      have c2:=(hbe.out.cell (p:=⟨wx.heap.size,j,none⟩) hgp).trans (HROW2.out j hlw);have hdr:(pcs 32 x).drop j=(pcs 32 x)[j] :: (pcs 32 x).drop (j+1):=List.drop_eq_getElem_cons hlw;have hc:=fun w=>NN (pcs 32 x)[j] w (HPZ2.out _ (List.getElem_mem hlw));obtain⟨y,hy⟩:∃ y,(pcs 32 x)[j]=y:=⟨_,rfl⟩;rw[hy] at c2 hdr hc;clear hy hlw
      cases hu:JG y with
      | none =>
        have HX:Hid (eF (pcs 32 x)=none):=by show _=_;rw[HRW.out,hdr,oF hu];rfl
        have HX2:Hid (qJ ⟨l.toArray⟩=(2,[])):=by
         show _=_;rw[HR0.out,HRD.out,HRX.out,HDR.out,rC HX.out];rfl
        rw[hu] at hc;have HC:=zh hc;clear hc hu hdr;go_wp2_with fail;refine (HC.out _).mono ?_;rintro e w6 ⟨rfl,b6⟩;have B6:=zh (HBE.out.trans ((hbe.out.trans (b6.mono hbs)).mono hwp1));clear b6;go_wp2_with fail;go_ret2;exact fK HX2.out rfl (HB1.out.trans (B6.out.mono HB1.out.size))
      | some z =>
        have HX:Hid (eF (pcs 32 x)=(eF ((pcs 32 x).drop (j+1))).map ((dw++[z]) ++ ·)):=by
         show _=_;rw[HRW.out,hdr,oE hu,Option.map_map];congr 1
         funext u
         simp
        rw[hu] at hc;have HC:=zh hc;clear hc hu hdr;go_wp2_with fail;refine (HC.out _).mono ?_;rintro e w6 ⟨rfl,b6⟩;have B6:=zh (hbe.out.trans (b6.mono hbs));have hz6:=B6.out.size;have hown6:=zh (dL hown.out b6);clear b6 c2
        go_wp2_with (first
         | (at_builtin;refine iK rfl (.tmp 61) (.tmp 63) 55 9 rfl Tryz.underlying55 nH wp.heap.size _ dw j rfl HJ.out (hown6.out.alloc _) w6.heap.size z rfl (by simp) zo (by simp;omega) ?_;intro sp5 cap5 w5 hown5 hg5))
        have hbe5:=(B6.out.alloc hz6 (.cells #[.string z] 9)).grown hg5 (by simp;omega) (nC hown6.out);go_roundw
        case rel=>exact⟨j+1,dw++[z],sp5,cap5,by omega,by go_num,by show _=_;rw[List.length_append,←HJ.out];rfl,rfl,HX,hown5,hbe5⟩
        case measure=>simp[intOf];omega
     ·obtain rfl:n2=j:=by omega
      have hd2:decide ((n2:Int)<(n2:Int))=false:=by simp
      have HX:Hid (eF (pcs 32 x)=some dw):=by
       show _=_;rw[HRW.out,List.drop_eq_nil_of_le (by rw[HPL2.out];exact Nat.le_refl _)];simp[eF]
      have HX2:Hid (oG (pcs 10 T)=(oG ((pcs 10 T).drop (k+1))).map (aD (done++[(⟨sp3,n2,cap3,dw⟩:Ln)]) ++ ·)):=by
       show _=_;rw[HRX.out,HDR.out,rB HX.out,Option.map_map];congr 1
       funext u
       simp[aD]
      have HOL:Hid (kU wr w1.heap.size ⟨sp3,n2,cap3,dw⟩):=gF hown.out hwp1;have hown6:=zh (dL HWN.out hbe.out);have HEA6:Hid (∀ q ∈ done,kU wr w1.heap.size q):=fun q hq=>dL (HEA.out q hq) hbe.out;have B6:=zh (HBE.out.trans (hbe.out.mono hwp1));have hz6:=B6.out.size;clear HX hown hbe HRW
      go_wp2_with (first
       | (at_builtin;refine jV rfl (.tmp 65) (.tmp 67) 57 55 rfl Tryz.underlying57 LW w1.heap.size _ done k rfl HK.out (hown6.out.alloc _) wr.heap.size (⟨sp3,n2,cap3,dw⟩:Ln) rfl (by simp[Ln.val]) zo (by simp;omega) ?_;intro sp5 cap5 w5 hown5 hg5))
      have hbe5:=(B6.out.alloc hz6 (.cells #[.slice sp3 n2 cap3] 55)).grown hg5 (by simp;omega) (nC hown6.out);have HEA5:Hid (∀ q ∈ done++[(⟨sp3,n2,cap3,dw⟩:Ln)],kU w5 w1.heap.size q):=by
       intro q hq;have hq6:kU wr w1.heap.size q:=by
        rcases List.mem_append.1 hq with h | h
        ·exact HEA6.out q h
        ·rw[List.mem_singleton.1 h];exact HOL.out
       exact World.ownsRow.kept (World.ownsRow.alloc hq6 _) hg5 (yP (w:=wr) hq6 hown6.out (by decide))
      go_roundw
      case rel=>exact⟨k+1,done++[(⟨sp3,n2,cap3,dw⟩:Ln)],sp5,cap5,by omega,by go_num,by show _=_;rw[List.length_append,←HK.out];rfl,rfl,HX2,hown5,HEA5,hbe5⟩
      case measure=>simp[intOf];omega
   ·obtain rfl:n1=k:=by omega
    have hd1:decide ((n1:Int)<(n1:Int))=false:=by simp
    have hrd:vE ⟨l.toArray⟩=some (aD done):=by
     rw[HRD.out,HRX.out,List.drop_eq_nil_of_le (by rw[HPL.out];exact Nat.le_refl _)];simp[oG]
    have h1:=hown.out;have h2:=HK.out;rw[h2] at h1;have hE:=jE sp2 done.length cap2 done wx (iS h1 hea.out) (tU h1) (fun q hq=>tU (hea.out q hq));rw[←h2] at hE;have hcode:=HEN.out _ hrd;have HR2:Hid (qJ ⟨l.toArray⟩=if chk (aD done)=0 then (0,aD done) else (2,[])):=by show _=_;rw[HR0.out,hrd]
    have hE2:Calls Tryz.prog 23 #[.slice sp2 n1 cap2] wx fun e w'=>∃ v,e=.returned (.tuple #[v,.int .i64 (chk (aD done):Int)])∧Below wx.heap.size wx w':=hE.mono fun e w' ⟨v,he,_,hb⟩=>⟨v,by rw[he,hcode],hb⟩;have HE2:=zh hE2;obtain⟨cc,hcc⟩:∃ cc,chk (aD done)=cc:=⟨_,rfl⟩;rw[hcc] at HE2 HR2;have HBW:=zh (HB1.out.trans (hbe.out.mono HB1.out.size));clear hE hE2 hcode hrd h1 h2 hcc;by_cases hc0:cc=0
    ·have t2:((cc:Int) != 0)=false:=by rw[bne_eq_false_iff_eq];omega
     rw[if_pos hc0] at HR2;clear hc0;go_wp2_with fail;refine HE2.out.mono ?_;rintro e w9 ⟨v9,rfl,b9⟩;have B9:=zh b9;clear b9;go_wp2_with fail;go_ret2;rw[HR2.out];have h1:=gF (dL hown.out B9.out) HB1.out.size;have h3:=HK.out;rw[h3] at h1;refine⟨sp2,cap2,done,rfl,by rw[←h3];rfl,h1,fun q hq=>gF (dL (hea.out q hq) B9.out) HB1.out.size,HBW.out.trans (B9.out.mono HBW.out.size)⟩
    ·have t2:((cc:Int) != 0)=true:=by rw[bne_iff_ne];omega
     rw[if_neg hc0] at HR2;clear hc0;go_wp2_with fail;refine HE2.out.mono ?_;rintro e w9 ⟨v9,rfl,b9⟩;have B9:=zh b9;clear b9;go_wp2_with fail;go_ret2;exact fK HR2.out rfl (HBW.out.trans (B9.out.mono HBW.out.size))
 ·have t1:((l[n-1].toNat:Int) != 10)=true:=by
   rw[bne_iff_ne];intro e;apply hlast;apply UInt8.toNat_inj.1;show l[n-1].toNat=10;omega
  have HR:Hid (qJ ⟨l.toArray⟩=(2,[])):=by
   show _=_;rw[HR0.out];unfold vE;rw[if_neg hne,if_neg (by rw[hend,decide_eq_false hlast];simp)]
  clear hend hne hlen hs hll hc hbig
  go_enter Tryz.func26,Tryz.ntmps26
  go_wp2_with fail;go_ret2;exact fK HR.out rfl (Below.refl _ _)
end Go.Proofs.YtaeobegaodhpcaaGreatDoor
