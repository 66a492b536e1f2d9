/-
  The walk of the reference's Sum: it returns the digest of its bytes (condition: the argument reads as a list of at most 2^40 bytes).
-/
import Derived.Test.YtaeobegaodhpcaaGreatDoorZip
import Derived.Test.YtaeobegaodhpcaaGreatDoorQ5
import Derived.Deep.LoopGhost
import Derived.Outline
import Derived.Test.YtaeobegaodhpcaaGreatDoorQ4
set_option maxRecDepth 100000
set_option maxHeartbeats 8000000
namespace Go.Proofs.YtaeobegaodhpcaaGreatDoor
open Go.RowKit
theorem dZ {P:Program} {w:World} {ops:Array Oper} {rest:List Oper} {o:Oper} {a:Act} {Q:Exit→Act→World→Prop} (hgd:o.guard=none) (t e:TypeId)
 (ho:o.op=.buildSlice t 0 #[]) (hrun:∀ w,(Instr.buildSlice t 0 #[]).run P w=.ok (.slice (some ⟨w.heap.size,0,none⟩) 0 0) (w.alloc (.cells #[] e)))
 (h:∀ v0 w0,Hid (v0=.slice (some ⟨w.heap.size,0,none⟩) 0 0)→Hid (w0=w.alloc (.cells #[] e))→wpList P ops Q rest (a.put o.dst v0) w0):wpList P ops Q (o :: rest) a w:=by
 refine wpList_plain hgd fun K hK=>?_;have hk:=hK _ _ (h _ _ rfl rfl);have hr:=hrun w;unfold Oper.wp execOp;simp only[ho];simp[hr];exact hk
theorem oN {w:World} {base e size:Nat} {v:Value} {n:Nat} {xs:List Value} (h:w.ownsRow base e size v n xs):∃ sp cap,v=.slice sp n cap:=by
 obtain⟨_,⟨rfl,rfl⟩ | ⟨g,cap,cur,rfl,_⟩⟩:=h
 ·exact⟨none,0,rfl⟩
 ·exact⟨_,cap,rfl⟩
theorem dQ {w:World} {base e size:Nat} {v:Value} {n:Nat} {xs:List Value} (h:w.ownsRow base e size v n xs):∀ k,v.ownBlock=some k→base≤k:=fun k hk=>(h.lt k hk).1
theorem cR {P:Program} {w:World} {ops:Array Oper} {rest:List Oper} {o:Oper} {a:Act} {Q:Exit→Act→World→Prop} (hgd:o.guard=none) (s x:Operand) (t e:TypeId)
 (ho:o.op=.call { callee:=.builtin .append,args:=#[s,x],argTypes:=#[t,t] }) (ht:P.underlying t=some (.slice e)) (hi:(P.info? e).map (fun i=>(i.zero,i.size,i.bytes))=some (some (.int .u8 0),1,1))
 (base:Nat) (v:Value) (xs:List Int) (n:Nat) (hs:a.eval s=v) (hn:n=xs.length) (hown:w.ownsRow base e 1 v n (xs.map (Value.int .u8)))
 (g:Nat) (y:Int) (hx:a.eval x=.slice (some ⟨g,0,none⟩) 1 1) (hc:w.cell? ⟨g,0,none⟩=some (.int .u8 y))
 (hlen:n≤2199023255552) (hbase:base≤w.heap.size)
 (h:∀ sp cap w',Hid (w'.ownsRow base e 1 (.slice sp (n+1) cap) (n+1) ((xs++[y]).map (Value.int .u8)))→w.grownBy w' v.ownBlock→wpList P ops Q rest (a.put o.dst (.slice sp (n+1) cap)) w'):wpList P ops Q (o :: rest) a w:=by
 obtain⟨i0,hi0,hz0,hz1,hz2⟩:=info_parts hi;refine wpList_append_own w hgd s x t ho base e i0 (.int .u8 0) 1 1 ht hi0 hz0 hz1 hz2 rfl (by decide) v n _ hs hown ⟨g,0,none⟩ 1 1 [.int .u8 y] hx rfl ?_ (by intro u hu;simp at hu;subst hu;rfl) (by unfold maxLen;omega) zo hbase ?_
 ·intro j u hj
  match j,hj with
  | 0,hj=>simp at hj;subst hj;rw[Addr.add_mid];exact hc
 ·intro v' w' h1 h2 _;obtain⟨sp,cap,rfl⟩:=oN h1;exact h sp cap w' (by show World.ownsRow _ _ _ _ _ _ _;rw[List.map_append];exact h1) h2
def IL (n:Nat):Nat:=(119-n % 64) % 64
theorem KY (l:List Int):pad l=l++[128]++List.replicate (IL l.length) 0++tX ((l.length:Int)*8):=by
 unfold pad IL;rw[Int.mul_comm];simp
theorem LK (M:Int) (m:Nat) (hm:m<8):(tX M).take (8-(m+1))++[lb M m]=(tX M).take (8-m):=by
 rcases (by omega:m=0∨m=1∨m=2∨m=3∨m=4∨m=5∨m=6∨m=7) with rfl | rfl | rfl | rfl | rfl | rfl | rfl | rfl <;> rfl
theorem VA {l:List Int} (h:Byt l):Byt (pad l):=fun x hx=>by
 unfold pad at hx;rcases List.mem_append.1 hx with hx | hx
 ·exact h x hx
 ·rcases List.mem_cons.1 hx with rfl | hx
  ·omega
  ·rcases List.mem_append.1 hx with hx | hx
   ·rw[List.eq_of_mem_replicate hx];omega
   ·exact QI _ x hx
theorem kF {w w':World} {b o B n:Nat} (h:w.there b o n) (hb:Below B w w') (hlt:b<B):w'.there b o n:=fun j hj=>by
 rw[hb.cell (p:=⟨b,o+j,none⟩) hlt,hb.frozen (p:=⟨b,o+j,none⟩) hlt];exact h j hj
theorem YY {w:World} {b:Nat} {L0:List Int} (h:RowIn w b 148 .u32 L0) (h0:L0.length=8) (L:List Int) (hL:L.length=8) (A:Array Value) (hA:A=(L.map (Value.int .u32)).toArray):(storeCells ⟨b,0,none⟩ A.toList).run Tryz.prog w=.ok () (w.setRow b A):=by
 subst hA;have hl:(L.map (Value.int .u32)).toArray.toList.length=8:=by simp[hL]
 have:=run_storeCells_at Tryz.prog b 0 148 (L.map (Value.int .u32)).toArray.toList 0 _ w h (by rw[hl];simp[h0]) (fun v hv=>(Array.all_eq_true_iff_forall_mem.1 (aW .u32 L)) v (by simpa using hv));rw[this];have e:((L0.map (Value.int .u32)).toArray.toList.take (0+0)++(L.map (Value.int .u32)).toArray.toList++(L0.map (Value.int .u32)).toArray.toList.drop (0+0+(L.map (Value.int .u32)).toArray.toList.length)).toArray=(L.map (Value.int .u32)).toArray:=by
  rw[List.drop_eq_nil_of_le (by rw[hl];simp[h0])];simp
 rw[e]
theorem by4 (l:List Int) (k:Nat) (h:k / 4<l.length):(aP l).getD k 0=(wb (l.getD (k / 4) 0)).getD (k % 4) 0:=by
 induction l generalizing k with
 | nil=>simp at h
 | cons x r ih =>
   by_cases hk:k<4
   ·rcases (by omega:k=0∨k=1∨k=2∨k=3) with rfl | rfl | rfl | rfl <;> rfl
   ·obtain⟨j,rfl⟩:∃ j,k=j+4:=⟨k-4,by omega⟩;have h2:(j+4) / 4=j / 4+1:=by omega
    have h3:(j+4) % 4=j % 4:=by omega
    rw[h2] at h ⊢;rw[h3];have:=ih j (by simpa using h);rw[List.getD_cons_succ,←this];rfl
theorem WH (L:List Int) (hL:L.length=32) (k:Nat) (h:k<32):(aQ 32 (L.take k)).set k (L.getD k 0)=aQ 32 (L.take (k+1)):=by
 have hk:(L.take k).length=k:=by simp;omega
 have:=eO 32 (L.take k) (L.getD k 0) zo;rw[hk] at this;rw[this,kY L k zo]
theorem oM (sp:Option Addr) (n cap:Nat) (b:List Int) (w:World) (hs:Src w w.heap.size sp n cap b) (hnil:sp=none→cap=0) (hbd:n≤1099511627776) :
 Calls Tryz.prog 72 #[.slice sp n cap] w (NM w b):=by
 have HS:=zh hs;have IQ:=zh hnil;clear hs hnil;have qL:=zh HS.out.len;have HN:=zh (NewZ.new w);have HRB:=zh (fun w:World=>(show (Instr.buildSlice 22 0 #[]).run Tryz.prog w=.ok (.slice (some ⟨w.heap.size,0,none⟩) 0 0) (w.alloc (.cells #[] 5)) by kernel_rfl))
 go_enter Tryz.func72,Tryz.ntmps72
 go_wp2_with (first
  | (refine dZ rfl 22 5 rfl HRB.out ?_;generalize hw0:World.alloc w _=w0;have HN0:=(by rw[←hw0];exact HN:Hid (NewZ w w0));clear hw0;intro v1 w1 hv1 hw1;have hb1:Below w0.heap.size w0 w1:=(by rw[hw1.out];exact aA _ _);have HO1:Hid (w1.ownsRow w0.heap.size 5 1 v1 0 []):=(by rw[hv1.out,hw1.out];exact World.ownsRow_made w0 #[] 0 zl (by unfold maxLen;omega) rfl);have hs01:=hb1.size;have HSR:=zh (HS.out.below (HN0.out.b.trans (hb1.mono HN0.out.b.size)) zl))
  | (at_builtin;refine eA rfl (.tmp 10) (.tmp 11) 22 5 rfl Tryz.underlying22 Tryz.info5a w0.heap.size _ [] rfl HO1.out _ _ _ b (by rw[qL.out];rfl) (by rw[qL.out];exact HSR.out) IQ.out (by rw[qL.out];simp;omega) hs01 ?_;intro v2 w2 hown2 hg2 hx2;clear hx2;have hb2:=hb1.grown hg2 hs01 (dQ HO1.out);have hs02:=hb2.size)
  | (at_builtin;refine cR rfl (.tmp 12) (.tmp 13) 22 5 rfl Tryz.underlying22 Tryz.info5a w0.heap.size _ b n rfl qL.out.symm (by have:=hown2.out.alloc (.cells #[.int .u8 128] 5);rw[←qL.out];exact this) w2.heap.size 128 rfl (by simp) zo (by simp;omega) ?_;intro sp3 cap3 w3 hown3 hg3;have hb3:=(hb2.alloc hs02 _).grown hg3 (by simp;omega) (dQ hown2.out);have hs03:=hb3.size))
 have aBb:=hown3;clear hown3 hown2 HO1 hb1 hb2 hs01 hs02 hg2 hg3 HSR HRB hv1 hw1;have hb3':=hb3
 go_loopg [3] (IL n) (fun g v wr=>∃ (j N:Nat) (sp:Option Addr) (cap:Nat),Hid (j+g=IL n)∧Hid (N=n+1+j)∧N≤n+65∧v=.slice sp N cap∧Hid (wr.ownsRow w0.heap.size 5 1 (.slice sp N cap) N ((b++[128]++List.replicate j 0).map (Value.int .u8)))∧Below w0.heap.size w0 wr)
 case atStart=>exact⟨0,n+1,sp3,cap3,by show _=_;omega,rfl,by omega,rfl,by show World.ownsRow _ _ _ _ _ _ _;simpa using aBb.out,hb3⟩
 case round =>
  clear aBb hb3 hb3' hs03;obtain⟨j,N,sp4,cap4,hjg,hN,hN2,rfl,hown,hbe⟩:=hrel;have hbs:=hbe.size;by_cases hj:j<IL n
  ·have hm1:((((N:Nat):Int) % 64) != 56)=true:=by
    rw[bne_iff_ne];have:=hN.out;unfold IL at hj;omega
   have hm2:((Int.tmod ((N:Nat):Int) 64) != 56)=true:=by rw[Int.tmod_eq_emod_of_nonneg zo];exact hm1
   go_wp2_with (at_builtin;refine cR rfl (.tmp 19) (.tmp 20) 22 5 rfl Tryz.underlying22 Tryz.info5a w0.heap.size _ (b++[128]++List.replicate j 0) N rfl (by rw[hN.out,List.length_append,List.length_append,qL.out,List.length_replicate];rfl) (hown.out.alloc _) wr.heap.size 0 rfl (by simp) zo (by simp;omega) ?_;intro sp5 cap5 w5 hown5 hg5)
   go_roundg (IL n-(j+1))
   case measure=>have:=hjg.out;omega
   case rel =>
    have hz63:IL n≤63:=by unfold IL;omega
    have hN3:N+1≤n+65:=by rw[hN.out];omega
    refine⟨j+1,N+1,sp5,cap5,by show _=_;have:=hjg.out;omega,by show _=_;rw[hN.out];omega,hN3,rfl,?_,(hbe.alloc hbs _).grown hg5 (by simp;omega) (dQ hown.out)⟩;have:=hown5.out;show World.ownsRow _ _ _ _ _ _ _;rw[List.replicate_succ',←List.append_assoc];exact this
  ·have hje:j=IL n:=by have:=hjg.out;omega
   have hm1:((((N:Nat):Int) % 64) != 56)=false:=by
    have h1:=hN.out;have h2:N % 64=56:=by unfold IL at hje;omega
    have h3:((N:Nat):Int) % 64=56:=by omega
    rw[h3];rfl
   have hm2:((Int.tmod ((N:Nat):Int) 64) != 56)=false:=by rw[Int.tmod_eq_emod_of_nonneg zo];exact hm1
   have HJE:=zh hje;clear hje hj hjg;obtain⟨Q,hQ⟩:∃ Q,Q=b++[128]++List.replicate j 0:=⟨_,rfl⟩;rw[←hQ] at hown;have HQL:Hid (Q.length=N):=by show _=_;rw[hQ,hN.out,List.length_append,List.length_append,qL.out,List.length_replicate];rfl
   have HPAD:Hid (pad b=Q++tX ((n:Int)*8)):=by
    have hj:=HJE.out;show _=_;rw[KY,qL.out,hQ,hj]
   have HQM:Hid (N % 64=56):=by
    have h1:=hN.out;have h2:=HJE.out;show _=_;unfold IL at h2;omega
   clear hQ HJE hN hm1 hm2;have hm1:((((N:Nat):Int) % 64) != 56)=false:=by
    have h2:=HQM.out;have h3:((N:Nat):Int) % 64=56:=by omega
    rw[h3];rfl
   have hm2:((Int.tmod ((N:Nat):Int) 64) != 56)=false:=by rw[Int.tmod_eq_emod_of_nonneg zo];exact hm1
   go_wp2_with fail;clear hm1 hm2
   go_loopg [3,5] 8 (fun g v i wx=>∃ (M:Nat) (sp:Option Addr) (cap:Nat),g≤8∧i=.int .i64 ((g:Int)-1)∧Hid (M+g=N+8)∧M≤N+8∧v=.slice sp M cap∧Hid (wx.ownsRow w0.heap.size 5 1 (.slice sp M cap) M ((Q++(tX ((n:Int)*8)).take (8-g)).map (Value.int .u8)))∧Below w0.heap.size w0 wx)
   case atStart=>exact⟨N,sp4,cap4,by omega,rfl,rfl,by omega,rfl,by show World.ownsRow _ _ _ _ _ _ _;simpa using hown.out,hbe⟩
   case round =>
    clear hown hbe hbs;obtain⟨M,sp5,cap5,hg8,rfl,hM,hM2,rfl,hown,hbe⟩:=hrel;have hbs:=hbe.size;rcases gk with _ | m
    ·rw[show (((0:Nat):Int)-1) = -1 from rfl];have hPl:(Q++(tX ((n:Int)*8)).take (8-0))=pad b:=by rw[HPAD.out];rfl
     rw[hPl] at hown;have HML:Hid ((pad b).length=M):=by have h1:=hM.out;show _=_;rw[lC,qL.out];have h2:=HQM.out;have h3:=HQL.out;have h4:=congrArg List.length HPAD.out;rw[lC,qL.out,List.length_append,h3,show (tX ((n:Int)*8)).length=8 from rfl] at h4;omega
     have hM64:M % 64=0:=by have h1:=hM.out;have h2:=HQM.out;omega
     have hMpos:64≤M:=by have h1:=hM.out;have h2:=HQM.out;omega
     have HSHA:Hid (sha b=sM (M / 64) iv (pad b)):=by show _=_;unfold sha;rw[HML.out]
     have hPB:Byt (pad b):=VA HS.out.byt;have xD:Hid (Src wr wr.heap.size sp5 M cap5 (pad b)):=by
      have ho:=hown.out;rw[←HML.out] at ho;obtain⟨sp',cap',e,hsrc,_⟩:=eK ho hPB;injection e with e1 e2 e3
      subst e1 e3;rw[HML.out] at hsrc;exact hsrc
     have HPB:=zh hPB;clear hPl hPB hown HQM HQL HPAD hM;generalize pad b=P at *;obtain⟨g,off,rfl,hgB,hMcap,hcell⟩:=xD.out.cells zo;have IG:=zh hcell;clear hcell xD;have HM64:=zh hM64;clear hM64;have h49:=NH;go_wp2_with fail;clear h49;have hgW:=heap_alloc_new wr (.cells #[Value.int .u32 1779033703,.int .u32 3144134277,.int .u32 1013904242,.int .u32 2773480762,.int .u32 1359893119,.int .u32 2600822924,.int .u32 528734635,.int .u32 1541459225] 148);have hbW:=aA wr (.cells #[Value.int .u32 1779033703,.int .u32 3144134277,.int .u32 1013904242,.int .u32 2773480762,.int .u32 1359893119,.int .u32 2600822924,.int .u32 528734635,.int .u32 1541459225] 148);generalize World.alloc wr _=w6 at *;have HR6:Hid (RowIn w6 wr.heap.size 148 .u32 iv.list):=hgW;have hHlt:=HR6.out.lt;have hbe6:Below w0.heap.size w0 w6:=hbe.trans (hbW.mono hbs);have HC6:Hid (∀ j,j<M→w6.cell? ⟨g,off+j,none⟩=some (.int .u8 (P.getD j 0))):=fun j hj=>(hbW.cell (p:=⟨g,off+j,none⟩) hgB).trans (IG.out j hj);have HBE6:=zh hbe6;obtain⟨H,hH⟩:∃ H,wr.heap.size=H:=⟨_,rfl⟩;rw[hH] at hgB HR6 hHlt hbs;rw[hH];clear hgW hbW hbe6 IG hbe hH
     go_loopg [7] (M / 64) (fun gg i wx=>∃ k I:Nat,k+gg=M / 64∧Hid (I=64*k)∧I≤M∧i=.int .i64 I∧Hid (RowIn wx H 148 .u32 (sM k iv P).list)∧Hid (Below H w6 wx))
     case atStart=>exact⟨0,0,by omega,rfl,by omega,rfl,HR6.out,Below.refl _ _⟩
     case round =>
      clear HR6;obtain⟨k,I,hkg,hI,hIM,rfl,hrow,HBX⟩:=hrel;have hbxs:=HBX.out.size;by_cases hk:k<M / 64
      ·have hI64:I+64≤M:=by have:=hI.out;have:=HM64.out;omega
       have hlt:I<M:=by omega
       go_wp2_with fail;have HCB:Hid (Calls Tryz.prog 113 #[.agg ((sM k iv P).list.map (Value.int .u32)).toArray,.slice (some ⟨g,off+I,none⟩) 64 (cap5-I)] wr.drew fun e w'=>e=.returned (.agg ((sM (k+1) iv P).list.map (Value.int .u32)).toArray)∧Below wr.heap.size wr w'):=by
        have hb:=NJ g (off+I) (cap5-I) ((P.drop I).take 64) (sM k iv P) wr.drew zo ?_ (by show g<wr.heap.size;omega) ?_
        ·rw[iX,←hI.out];exact hb.mono fun e w' ⟨he,hb⟩=>⟨he,(Below.refl _ wr).drew.trans hb⟩
        ·intro j hj;have h1:=(HBX.out.cell (p:=⟨g,off+(I+j),none⟩) hgB).trans (HC6.out (I+j) zo);rw[Nat.add_assoc];show wr.cell? _=_;rw[h1];simp[List.getD_eq_getElem?_getD,hj]
        ·intro j;by_cases hj:j<64
         ·have:=HPB.out.at_ (I+j);simpa [List.getD_eq_getElem?_getD,List.getElem?_take,hj] using this
         ·simp[List.getD_eq_getElem?_getD,List.getElem?_take,hj]
       obtain⟨A2,hA2⟩:∃ A2,A2=((sM (k+1) iv P).list.map (Value.int .u32)).toArray:=⟨_,rfl⟩;rw[←hA2] at HCB;have HSTO:Hid (∀ w7,Below wr.heap.size wr w7→(storeCells ⟨H,0,none⟩ A2.toList).run Tryz.prog w7=.ok () (w7.setRow H A2)):=fun w7 h7=>YY (hrow.out.below h7 zo) (St.list_length _) _ (St.list_length _) A2 hA2;have HREL:Hid (∀ w7,Below wr.heap.size wr w7→RowIn (w7.setRow H A2) H 148 .u32 (sM (k+1) iv P).list∧Below H w6 (w7.setRow H A2)):=fun w7 h7=>⟨by rw[hA2];exact setRow_heap _ _ _ _ _ _ (hrow.out.below h7 zo),below_setRow (HBX.out.trans (h7.mono zo)) zl _⟩;have HA2:=zh hA2;clear hA2;generalize sM k iv P=s at *;obtain⟨sa,sb,sc,sd,se,sf,sg,sh⟩:=s;have k0:=hrow.out.get 0 (by rw[St.list_length];decide);have k1:=hrow.out.get 1 (by rw[St.list_length];decide);have k2:=hrow.out.get 2 (by rw[St.list_length];decide);have k3:=hrow.out.get 3 (by rw[St.list_length];decide);have k4:=hrow.out.get 4 (by rw[St.list_length];decide);have k5:=hrow.out.get 5 (by rw[St.list_length];decide);have k6:=hrow.out.get 6 (by rw[St.list_length];decide);have k7:=hrow.out.get 7 (by rw[St.list_length];decide);simp only[St.list,List.getD_cons_zero,List.getD_cons_succ] at k0 k1 k2 k3 k4 k5 k6 k7;have HCB':Hid (Calls Tryz.prog 113 #[.agg #[.int .u32 sa,.int .u32 sb,.int .u32 sc,.int .u32 sd,.int .u32 se,.int .u32 sf,.int .u32 sg,.int .u32 sh],.slice (some ⟨g,off+I,none⟩) 64 (cap5-I)] wr.drew fun e w'=>e=.returned (.agg A2)∧Below wr.heap.size wr w'):=HCB.out;clear HCB hrow;have q1:IntKind.i64.wrap ((I:Int)+64)=(I:Int)+64:=IntWalk.i64_in _ zo;have q2:(0:Int)≤(I:Int)+64:=by omega
       have q3:((I:Int)+64).toNat=I+64:=by omega
       have q4:(0:Int)≤(I:Int):=by omega
       have q5:(I:Int)≤(I:Int)+64:=by omega
       have q6:(I:Int)+64≤(cap5:Int):=by omega
       have q7:¬ cap5=I:=by omega
       have q8:I+64-I=64:=by omega
       have hsz2:A2.size=8:=by have:=HA2.out;rw[this];simp[St.list_length]
       go_region_with (go_at_call 113;(with_reducible refine HCB'.out.mono ?_);rintro e w7 ⟨rfl,hb7⟩;have hst:=HSTO.out _ hb7)
       go_wp2
       go_roundg (M / 64-(k+1))
       case measure=>omega
       case rel=>exact⟨k+1,I+64,by omega,by show _=_;have:=hI.out;omega,by omega,by go_num,(HREL.out _ hb7).1,(HREL.out _ hb7).2⟩
      ·have hkM:k=M / 64:=by omega
       obtain rfl:I=M:=by have:=hI.out;have:=HM64.out;omega
       have HS2:Hid (sha b=sM k iv P):=by show _=_;rw[hkM];exact HSHA.out
       have HW6:=zh (HBE6.out.trans (HBX.out.mono hbs));have HR:Hid (RowIn wr w.heap.size 77 .u8 (List.replicate 32 0)):=HN0.out.z.below HW6.out (by have:=HN0.out.s;omega);have HWW:=zh (HN0.out.b.trans (HW6.out.mono HN0.out.b.size));have hWH:w.heap.size<H:=by have:=HN0.out.s;omega
       clear HSHA HBX HBE6 HC6 HPB hkM hkg hI HM64;generalize sM k iv P=s at *;go_wp2_with fail;generalize hwd:World.alloc wr _=wd;have hnd:NewZ wr wd:=by rw[←hwd];exact NewZ.new wr
       clear hwd;have hnds:=hnd.s;have HZD:Hid (RowIn wd wr.heap.size 77 .u8 (List.replicate 32 0)):=hnd.z;have HRD:Hid (RowIn wd H 148 .u32 s.list):=hrow.out.below hnd.b zo;have HRS:Hid (RowIn wd w.heap.size 77 .u8 (List.replicate 32 0)):=HR.out.below hnd.b zo;have HBD:Hid (Bw w wd):=HWW.out.trans (hnd.b.mono zo);obtain⟨D,hD⟩:∃ D,wr.heap.size=D:=⟨_,rfl⟩;rw[hD] at HZD hnds hbxs;rw[hD];have HSL:Hid ((aP s.list).length=32):=by show _=_;rw[aO,St.list_length]
       clear hnd HR HWW hrow HW6 hD;obtain⟨sa,sb,sc,sd,se,sf,sg,sh⟩:=s
       go_loopw [9] (fun i wx=>∃ k:Nat,k≤32∧i=.int .i64 k∧Hid (RowIn wx D 77 .u8 (aQ 32 ((aP (⟨sa,sb,sc,sd,se,sf,sg,sh⟩:St).list).take k)))∧Hid (wd.grownBy wx (some D))) (fun i _=>32-(intOf i).toNat)
       case atStart=>exact⟨0,by omega,rfl,HZD.out,World.grownBy.refl _ _⟩
       case round =>
        clear HZD;obtain⟨k,hk32,rfl,hrow,hgr⟩:=hrel;have hHD:H≠D:=by omega
        have HRX:=zh (HRD.out.grown hgr.out hHD);by_cases hk:k<32
        ·have HST:=zh (WH _ HSL.out k hk);have hq8:k / 4<8:=by omega
         have hB:=by4 (⟨sa,sb,sc,sd,se,sf,sg,sh⟩:St).list k (by rw[St.list_length];omega);have kq:=HRX.out.get (k / 4) (by rw[St.list_length];exact hq8);obtain⟨x,hx⟩:∃ x,(⟨sa,sb,sc,sd,se,sf,sg,sh⟩:St).list.getD (k / 4) 0=x:=⟨_,rfl⟩;rw[hx] at kq hB;clear hx;have HB:=zh hB;clear hB;have d1:((k:Int)).tdiv 4=((k / 4:Nat):Int):=by rw[Int.tdiv_eq_ediv_of_nonneg zo];omega
         have d2:(k:Int) / 4=((k / 4:Nat):Int):=by omega
         obtain⟨q,hq⟩:∃ q,k / 4=q:=⟨_,rfl⟩;rw[hq] at kq d1 d2 hq8;have q1:(0:Int)≤(q:Int):=by omega
         have q2:(q:Int)<8:=by omega
         have q3:(0:Int)≤(k:Int):=by omega
         have q4:(k:Int)<32:=by omega
         have hc1:decide ((k:Int)<32)=true:=by simp;omega
         have r0:k % 4=0∨k % 4=1∨k % 4=2∨k % 4=3:=by omega
         clear hq;have hfl:(aQ 32 ((aP (⟨sa,sb,sc,sd,se,sf,sg,sh⟩:St).list).take k)).length=32:=cI _ _ (by rw[List.length_take];omega);have c0:=hrow.out.get k (by rw[hfl];exact hk);have f0:=hrow.out.free k;clear hfl;obtain⟨y,hy⟩:∃ y,(aQ 32 ((aP (⟨sa,sb,sc,sd,se,sf,sg,sh⟩:St).list).take k)).getD k 0=y:=⟨_,rfl⟩;rw[hy] at c0;clear hy;rcases r0 with r | r | r | r
         ·have m1:(k:Int).tmod 4=0:=by rw[Int.tmod_eq_emod_of_nonneg zo];omega
          have m2:(k:Int) % 4=0:=by omega
          go_wp2_with fail;go_roundw
          case rel =>
           have h1:=hrow.out.put k ((aP (⟨sa,sb,sc,sd,se,sf,sg,sh⟩:St).list).getD k 0);rw[HST.out,HB.out,r] at h1;refine⟨k+1,by omega,by go_num,?_,bL hgr.out _ _⟩
           first | exact h1 | (have h2:(wb x).getD 0 0=x / 16777216 % 256:=(by simp[wb]);rw[h2] at h1;simpa using h1)
          case measure=>simp[intOf];omega
         ·have m1:(k:Int).tmod 4=1:=by rw[Int.tmod_eq_emod_of_nonneg zo];omega
          have m2:(k:Int) % 4=1:=by omega
          go_wp2_with fail;go_roundw
          case rel =>
           have h1:=hrow.out.put k ((aP (⟨sa,sb,sc,sd,se,sf,sg,sh⟩:St).list).getD k 0);rw[HST.out,HB.out,r] at h1;refine⟨k+1,by omega,by go_num,?_,bL hgr.out _ _⟩
           first | exact h1 | (have h2:(wb x).getD 1 0=x / 65536 % 256:=(by simp[wb]);rw[h2] at h1;simpa using h1)
          case measure=>simp[intOf];omega
         ·have m1:(k:Int).tmod 4=2:=by rw[Int.tmod_eq_emod_of_nonneg zo];omega
          have m2:(k:Int) % 4=2:=by omega
          go_wp2_with fail;go_roundw
          case rel =>
           have h1:=hrow.out.put k ((aP (⟨sa,sb,sc,sd,se,sf,sg,sh⟩:St).list).getD k 0);rw[HST.out,HB.out,r] at h1;refine⟨k+1,by omega,by go_num,?_,bL hgr.out _ _⟩
           first | exact h1 | (have h2:(wb x).getD 2 0=x / 256 % 256:=(by simp[wb]);rw[h2] at h1;simpa using h1)
          case measure=>simp[intOf];omega
         ·have m1:(k:Int).tmod 4=3:=by rw[Int.tmod_eq_emod_of_nonneg zo];omega
          have m2:(k:Int) % 4=3:=by omega
          go_wp2_with fail;go_roundw
          case rel =>
           have h1:=hrow.out.put k ((aP (⟨sa,sb,sc,sd,se,sf,sg,sh⟩:St).list).getD k 0);rw[HST.out,HB.out,r] at h1;refine⟨k+1,by omega,by go_num,?_,bL hgr.out _ _⟩
           first | exact h1 | (have h2:(wb x).getD 3 0=x / 1 % 256:=(by simp[wb]);rw[h2] at h1;simpa using h1)
          case measure=>simp[intOf];omega
        ·obtain rfl:k=32:=by omega
         have HRSX:Hid (RowIn wr w.heap.size 77 .u8 (List.replicate 32 0)):=HRS.out.grown hgr.out zo;have HBX:Hid (Bw w wr):=HBD.out.trans ((aU hgr.out zo).mono zo);have HX:Hid (RowIn wr D 77 .u8 (aP (⟨sa,sb,sc,sd,se,sf,sg,sh⟩:St).list)):=by
          have h1:=hrow.out;rw[List.take_of_length_le (by rw[HSL.out];exact Nat.le_refl _),gJ _ _ HSL.out] at h1;exact h1
         have HDG:Hid ((dg b)=((aP (⟨sa,sb,sc,sd,se,sf,sg,sh⟩:St).list).map (Value.int .u8)).toArray):=by show _=_;rw[dg,HS2.out]
         rw[show ((32:Nat):Int)=32 from rfl];have hc1:decide ((32:Int)<32)=false:=by decide
         generalize (⟨sa,sb,sc,sd,se,sf,sg,sh⟩:St)=s at *;have HSZ:Hid ((List.replicate 32 (0:Int)).length=(aP s.list).length):=by show _=_;rw[HSL.out];rfl
         clear hrow hgr HRS HBD HRX HRD HS2 HSL;generalize aP s.list=L at *;have HI:Hid ((Tryz.prog.info? 77).map (·.size)=some (L.map (Value.int .u8)).toArray.size):=by show _=_;rw[List.size_toArray,List.length_map,←HSZ.out];exact Tryz.info25d
         have HO:=zh (aW .u8 L);have HZ:Hid (((List.replicate 32 (0:Int)).map (Value.int .u8)).toArray.size=(L.map (Value.int .u8)).toArray.size):=by show _=_;rw[List.size_toArray,List.length_map,List.size_toArray,List.length_map,HSZ.out]
         go_wp2_with (first
          | (refine wpList_load_row rfl 77 _ rfl D rfl 77 _ (0,0) _ HX.out Tryz.underlying77 rfl HI.out ?_)
          | (refine wpList_store_row rfl 77 _ _ rfl w.heap.size _ rfl rfl 77 _ HRSX.out HI.out HZ.out HO.out ?_))
         exact bodyPost_ret (results_cell_row (P:=Tryz.prog) rfl _ _ w.heap.size 77 _ (0,0) _ rfl (HRSX.out.setRow _) Tryz.underlying77 rfl HI.out) rfl ⟨by rw[HDG.out],below_setRow HBX.out zl _⟩
    ·rw[show (((m+1:Nat):Int)-1)=(m:Int) by omega];have hm8:m<8:=by omega
     have HST:=zh (LK ((n:Int)*8) m hm8);have HML:Hid (M=(Q++(tX ((n:Int)*8)).take (8-(m+1))).length):=by
      have h1:=hM.out;show _=_;rw[List.length_append,HQL.out,List.length_take,show (tX ((n:Int)*8)).length=8 from rfl];omega
     go_wp2_with (at_builtin;refine cR rfl (.tmp 30) (.tmp 37) 22 5 rfl Tryz.underlying22 Tryz.info5a w0.heap.size _ (Q++(tX ((n:Int)*8)).take (8-(m+1))) M rfl HML.out (hown.out.alloc _) wr.heap.size (lb ((n:Int)*8) m) rfl (by simp[lb]) zo (by simp;omega) ?_;intro sp6 cap6 w6 hown6 hg6)
     go_roundg m
     case measure=>omega
     case rel =>
      refine⟨M+1,sp6,cap6,by omega,rfl,by show _=_;have:=hM.out;omega,by have:=hM.out;omega,rfl,?_,(hbe.alloc hbs _).grown hg6 (by simp;omega) (dQ hown.out)⟩;have:=hown6.out;rw[List.append_assoc,HST.out] at this;exact this
end Go.Proofs.YtaeobegaodhpcaaGreatDoor
namespace Go.Proofs.YtaeobegaodhpcaaGreatDoor
open Go.RowKit Go.Proofs.YtaeobegaodhpcaaGreatDoor.One
theorem CA (L:List Int) (hL:L.length=32) (k:Nat) (h:k<16):(aQ 16 (L.take k)).set k (L.getD k 0)=aQ 16 (L.take (k+1)):=by
 have e:L.take (k+1)=L.take k++[L.getD k 0]:=by
  rw[List.take_succ_eq_append_getElem zo,List.getD_eq_getElem?_getD,List.getElem?_eq_getElem zo];rfl
 have hl:(L.take k).length=k:=by rw[List.length_take];omega
 have h2:=eO 16 (L.take k) (L.getD k 0) (by rw[hl];exact h);rw[hl] at h2;rw[e,←h2]
theorem RG {ps:List Part} (h:∀ q ∈ ps,Byt q.b):Byt (cat ps):=fun x hx=>by
 unfold cat at hx;obtain⟨l,hl,hxl⟩:=List.mem_flatten.1 hx;obtain⟨q,hq,rfl⟩:=List.mem_map.1 hl;exact h q hq x hxl
theorem yG (pa:Option Addr) (np ncap:Nat) (ps:List Part) (w:World) (hp:PartsIn w w.heap.size pa np ps) (hnil:∀ q ∈ ps,q.sp=none→q.cap=0) (hbd:(cat ps).length≤1099511627776) (hnp:np≤1099511627776) :
 Calls Tryz.prog 139 #[.slice pa np ncap] w fun e w'=>e=.returned (.agg (hvA (hfB (cat ps))))∧Below w.heap.size w w':=by
 have HP:=zh hp;have IQ:=zh hnil;clear hp hnil;have HN:=zh (heap_alloc_new w (.cells (Array.replicate 16 (Value.int .u8 0)) 42));have HB:=zh (aA w (.cells (Array.replicate 16 (Value.int .u8 0)) 42));have HS:=zh (aF w (.cells (Array.replicate 16 (Value.int .u8 0)) 42))
 go_enter Tryz.func139,Tryz.ntmps139
 go_wp2_with fail;generalize hw0:World.alloc w _=w0;have HZ0:Hid (Ah w0 w.heap.size (Array.replicate 16 (Value.int .u8 0)) 42):=by rw[←hw0];exact HN.out
 have HB0:Hid (Below w.heap.size w w0):=by rw[←hw0];exact HB.out
 have HS0:Hid (w0.heap.size=w.heap.size+1):=by rw[←hw0];exact HS.out
 clear hw0 HN HB HS;generalize hb:w.heap.size=b at *;have HBZ:=zh hb;clear hb;have hs0:b+1≤w0.heap.size:=Nat.le_of_eq HS0.out.symm
 go_loopw [3,4] (fun v i wr=>∃ k:Nat,k≤np∧i=.int .i64 k∧Hid (wr.ownsRow (b+1) 5 1 v (cat (ps.take k)).length ((cat (ps.take k)).map (Value.int .u8)))∧Below (b+1) w0 wr) (fun _ i _=>np-(intOf i).toNat)
 case atStart=>exact⟨0,by omega,rfl,World.ownsRow_nil _ _ _ _,Below.refl _ _⟩
 case round =>
  rename_i v _
  obtain⟨k,hkn,rfl,hown,hber⟩:=hrel;by_cases hlt:k<np
  ·have hk2:k<ps.length:=by have:=HP.out.len;omega
   have hpl:=HP.out.len;obtain⟨pb,po,rfl,hpb,hcell⟩:=HP.out.cells zo;have hbelw:Below b w wr:=HB0.out.trans (hber.mono zo);have ck:wr.cell? ⟨pb,po+k,none⟩=some (.slice ps[k].sp ps[k].n ps[k].cap):=(hbelw.cell (p:=⟨pb,po+k,none⟩) hpb).trans (hcell k hk2);have hsr:Src wr (b+1) ps[k].sp ps[k].n ps[k].cap ps[k].b:=((HP.out.srcs _ (List.getElem_mem hk2)).below hbelw zl).more zo;have HCS:=zh (nU ps k hk2);have HLE:=zh (sF ps (k+1));have HN:=zh (IQ.out _ (List.getElem_mem hk2));have hsz:=hber.size;have hszb:b+1≤wr.heap.size:=by omega
   clear hcell hbelw hpl;generalize ps[k].sp=sp at *;generalize ps[k].n=n at *;generalize ps[k].cap=cap at *;generalize ps[k].b=bb at *;obtain rfl:=hsr.len;have HSR:=zh hsr;clear hsr;have hd:decide ((k:Int)<(np:Int))=true:=by simp;omega
   have p1:(0:Int)≤(k:Int):=by omega
   have p2:(k:Int)<(np:Int):=by omega
   have hadd:(cat (ps.take k)).length+bb.length≤1099511627776:=by
    have h1:=HLE.out;rw[HCS.out,List.length_append] at h1;omega
   go_wp2_with (refine eA rfl (.tmp 14) (.tmp 18) 22 5 rfl Tryz.underlying22 Tryz.info5a (b+1) _ (cat (ps.take k)) rfl hown.out _ _ (b+1) bb rfl HSR.out HN.out hadd hszb ?_;intro v' w1 hown' hg' _)
   go_roundw
   case rel =>
    exact⟨k+1,by omega,by go_num,by rw[HCS.out];exact hown',hber.grown hg' hszb (bO hown.out)⟩
   case measure=>simp[intOf];omega
  ·obtain rfl:k=np:=by omega
   have hall:cat (ps.take k)=cat ps:=by rw[List.take_of_length_le (by rw[HP.out.len];exact Nat.le_refl _)]
   rw[hall] at hown;obtain⟨sp,cap,rfl,hsrc,hspn⟩:=eK hown.out (RG fun q hq=>(HP.out.srcs q hq).byt);have HZr:Hid (Ah wr b (Array.replicate 16 (Value.int .u8 0)) 42):=(hber.block b zo).trans HZ0.out;have HBW:Hid (Below b w wr):=HB0.out.trans (hber.mono zo);have hszb:b+1≤wr.heap.size:=by have:=hber.size;omega
   clear hown hall hber HZ0 HB0 HS0 hs0;have hd:decide ((k:Int)<(k:Int))=false:=by simp
   go_wp2_with fail;refine (oM sp (cat ps).length cap (cat ps) wr hsrc hspn hbd).mono ?_;rintro e w2 ⟨rfl,hb2⟩;have HB2:Hid (Bw wr w2):=hb2;clear hb2 hsrc hspn;have HD0:=zh (heap_alloc_new w2 (.cells (Array.replicate 32 (Value.int .u8 0)) 77));have HA1:=zh ((heap_alloc_old (w2.alloc (.cells (dg (cat ps)) 77)) (.cells (Array.replicate 16 (Value.int .u8 0)) 42) (show w2.heap.size<_ by simp)).trans (heap_alloc_new w2 (.cells (dg (cat ps)) 77)));have HA2:=zh (heap_alloc_new (w2.alloc (.cells (dg (cat ps)) 77)) (.cells (Array.replicate 16 (Value.int .u8 0)) 42));have HAB:=zh (((Below.refl w2.heap.size w2).alloc zl (.cells (dg (cat ps)) 77)).alloc (by simp) (.cells (Array.replicate 16 (Value.int .u8 0)) 42));have HAS:=zh (show ((w2.alloc (.cells (dg (cat ps)) 77)).alloc (.cells (Array.replicate 16 (Value.int .u8 0)) 42)).heap.size=w2.heap.size+2 by simp)
   go_wp2_with (refine wpList_store_row rfl 77 _ _ rfl w2.heap.size _ rfl rfl 77 _ HD0.out (iH _) (by rw[kP];rfl) (nT _) ?_;rw[aK])
   generalize hw3:World.alloc (World.alloc w2 _) _=w3;have HR3:Hid (RowIn w3 w2.heap.size 77 .u8 (aP (sha (cat ps)).list)):=by rw[←hw3];exact HA1.out
   have HH3:Hid (RowIn w3 (w2.heap.size+1) 42 .u8 (List.replicate 16 0)):=by rw[←hw3];have h:=HA2.out;rw[World.size_alloc] at h;exact h
   have HB3:Hid (Below w2.heap.size w2 w3):=by rw[←hw3];exact HAB.out
   have hs3:w2.heap.size+2≤w3.heap.size:=by rw[←hw3];exact Nat.le_of_eq HAS.out.symm
   clear hw3 HD0 HA1 HA2 HAB HAS;have hbw2:b+1≤w2.heap.size:=by have:=HB2.out.size;omega
   have HZ3:Hid (Ah w3 b (Array.replicate 16 (Value.int .u8 0)) 42):=(HB3.out.block b zo).trans ((HB2.out.block b zo).trans HZr.out);have YD:Hid (Below b w w3):=HBW.out.trans ((HB2.out.mono zo).trans (HB3.out.mono zo));clear HB2 HB3 HZr HBW hszb;generalize hg:w2.heap.size=g at *;have HL:Hid ((aP (sha (cat ps)).list).length=32):=by show _=_;simp[aO,St.list_length]
   have IE:Hid ((aP (sha (cat ps)).list).take 16=hfB (cat ps)):=rfl;generalize aP (sha (cat ps)).list=D at *;clear hg
   go_loopw [7] (fun i wr=>∃ k:Nat,k≤16∧i=.int .i64 k∧Hid (RowIn wr (g+1) 42 .u8 (aQ 16 (D.take k)))∧Hid (Below (g+1) w3 wr)) (fun i _=>16-(intOf i).toNat)
   case atStart=>exact⟨0,by omega,rfl,HH3.out,Below.refl _ _⟩
   case round =>
    clear HH3;obtain⟨k,hk,rfl,HH,HBE⟩:=hrel;by_cases hlt:k<16
    ·have c1:wr.cell? ⟨g,k,none⟩=some (.int .u8 (D.getD k 0)):=(HR3.out.below HBE.out zo).get k (by have:=HL.out;omega);have f1:wr.frozen? ⟨g+1,k,none⟩=false:=HH.out.free k;have hfl:(aQ 16 (D.take k)).length=16:=cI _ _ (by rw[List.length_take];omega);have c2:=HH.out.get k (by rw[hfl];exact hlt);have HFS:=zh (CA D HL.out k hlt);generalize (aQ 16 (D.take k)).getD k 0=old at *;clear hfl;generalize D.getD k 0=x at *;have hd1:decide ((k:Int)<16)=true:=by simp;omega
     have p1:(0:Int)≤(k:Int):=by omega
     have p2:(k:Int)<16:=by omega
     have p3:(k:Int)<32:=by omega
     go_wp2_with fail;go_roundw
     case rel=>exact⟨k+1,by omega,by go_num,by rw[←HFS.out];exact HH.out.put k x,HBE.out.setCell (by show g+1≤g+1;omega) _⟩
     case measure=>simp[intOf];omega
    ·obtain rfl:k=16:=by omega
     have hfull:aQ 16 (D.take 16)=hfB (cat ps):=by rw[IE.out];exact gJ _ _ (jL _).1
     rw[hfull] at HH;clear hfull;have HZ4:Hid (Ah wr b (Array.replicate 16 (Value.int .u8 0)) 42):=(HBE.out.block b zo).trans HZ3.out;have HG4:Hid (Ah wr (g+1) (hvA (hfB (cat ps))) 42):=HH.out
     go_wp2_with (first
      | (refine wpList_load_row rfl 42 _ rfl (g+1) rfl 42 _ (0,0) _ HG4.out Tryz.underlying42 rfl (aI (jL _)) ?_)
      | (refine wpList_store_row rfl 42 _ _ rfl b _ rfl rfl 42 _ HZ4.out (aI (jL _)) (cE (jL _)) (cM _) ?_))
     exact bodyPost_ret (results_cell_row (P:=Tryz.prog) rfl _ _ b 42 _ (0,0) _ rfl (setRow_heap _ _ _ _ _ _ HZ4.out) Tryz.underlying42 rfl (aI (jL _))) rfl ⟨rfl,by rw[HBZ.out];exact below_setRow (YD.out.trans (HBE.out.mono zo)) zl _⟩
end Go.Proofs.YtaeobegaodhpcaaGreatDoor
