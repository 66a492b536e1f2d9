/-
  Plain mathematics: what is read is not longer when it is encoded (no program is named here but for its name space).
-/
import Derived.Test.YtaeobegaodhpcaaGreatDoorQ25
import Derived.Deep.Upon
set_option maxRecDepth 100000
set_option maxHeartbeats 8000000
namespace Go.Proofs.YtaeobegaodhpcaaGreatDoor
open Go.RowKit
theorem uV:∀ (n:Nat) (t m:List UInt8),t.length≤n→kB t=some m→(m.flatMap sL).length≤t.length
 | _, [], m, _, h => by
   have:m=[]:=by simpa [kB] using h.symm
   subst this;exact Nat.le_refl _
 | 0,c :: t,_,hn,_=>by simp at hn
 | n + 1, c :: t, m, hn, h => by
   have hn':t.length≤n:=by simpa using hn
   by_cases hp:lU c.toNat=true
   ·rw[tG hp] at h
    cases hu:kB t with
    | none=>rw[hu] at h;cases h
    | some m' =>
      rw[hu] at h;have e:m=c :: m':=by simpa using h.symm
      subst e;rw[List.flatMap_cons,oY hp,List.length_append];have:=uV n t m' hn' hu;rw[List.length_singleton,List.length_cons];omega
   ·have hp':lU c.toNat=false:=by simpa using hp
    by_cases hc:c=37
    ·subst hc;rw[uW] at h
     cases he:uB t with
     | none=>rw[he] at h;cases h
     | some v =>
       rw[he] at h;have ht:2≤t.length:=by
        match t,he with
        | [],he=>simp[uB] at he
        | [_],he=>simp[uB] at he
        | _ :: _ :: _,_=>simp
       cases hu:kB (t.drop 2) with
       | none=>rw[hu] at h;cases h
       | some m' =>
         rw[hu] at h;have e:m=v :: m':=by simpa using h.symm
         subst e;rw[List.flatMap_cons,List.length_append];have h1:=uV n (t.drop 2) m' (by rw[List.length_drop];omega) hu;rw[List.length_drop] at h1;have h2:=MV v;rw[List.length_cons];omega
    ·rw[tH hp' hc] at h;cases h
theorem FI {t m:List UInt8} (h:eD t=some m):(dK m).length≤t.length:=by
 unfold eD at h;by_cases h0:t=[]
 ·rw[if_pos h0] at h;cases h
 ·rw[if_neg h0] at h
  have hp:1≤t.length:=by cases t with
   | nil=>exact absurd rfl h0
   | cons _ _=>simp
  by_cases h1:t=[126]
  ·rw[if_pos h1] at h;have e:m=[]:=by simpa using h.symm
   subst e;exact hp
  ·rw[if_neg h1] at h;unfold dK
   split
   ·exact hp
   ·exact uV _ t m zl h
theorem xP:∀ (ws xs:List ByteArray),eF ws=some xs→(body xs).length≤(ws.map fun x=>x.size+1).sum∧xs.length=ws.length
 | [], xs, h => by
   have:xs=[]:=by simpa [eF] using h.symm
   subst this;exact⟨Nat.le_refl _,rfl⟩
 | s :: r, xs, h => by
   cases hu:JG s with
   | none=>rw[oF hu] at h;cases h
   | some x =>
     rw[oE hu] at h
     cases hr:eF r with
     | none=>rw[hr] at h;cases h
     | some xs' =>
       rw[hr] at h;have e:xs=x :: xs':=by simpa using h.symm
       subst e;obtain⟨h1,h2⟩:=xP r xs' hr;have h3:(dK x.data.toList).length≤s.data.toList.length:=by
        unfold JG at hu
        cases hw:eD s.data.toList with
        | none=>rw[hw] at hu;cases hu
        | some m =>
          rw[hw] at hu;have e:x=⟨m.toArray⟩:=by simpa using hu.symm
          subst e;exact FI hw
       rw[←Lib.size_eq] at h3;refine⟨?_,by simp[h2]⟩;unfold body at h1 ⊢;rw[List.flatMap_cons,List.length_append,List.length_append,List.map_cons,List.sum_cons,List.length_singleton];omega
theorem rE (c:UInt8):∀ (k:Nat) (s:ByteArray),Lib.countB s (eQ c)=k→((Lib.splitB (eQ c) 0 k s).map fun x=>x.size+1).sum=s.size+1
 | 0,s,_=>by rw[Lib.splitB_zero];simp
 | k + 1, s, hk => by
   rcases Lib.indexB_cases s (eQ c) with hix | ⟨i,hix,hroom⟩
   ·rw[Lib.countB_miss s (eQ c) hix] at hk;omega
   ·have ih:=rE c k (s.extract (i+(eQ c).size) s.size) (by have:=Lib.countB_hit s (eQ c) i zl hix;omega);rw[Lib.splitB_hit (eQ c) 0 k s i hix,List.map_cons,List.sum_cons,ih];rw[nD] at hroom ⊢;rw[ByteArray.size_extract,ByteArray.size_extract];omega
theorem QF {s:ByteArray} {xs:List ByteArray} (h:eF (pcs 32 s)=some xs):(qG xs).length≤s.size+1:=by
 obtain⟨h1,h2⟩:=xP _ _ h;have h3:=rE 32 _ s rfl;have h4:=rR 32 s;unfold pcs at h1 h4;rw[h3] at h1;unfold qG;rw[List.length_append,List.length_dropLast];have:0<(body xs).length:=by
  cases xs with
  | nil=>unfold pcs at h2;rw[List.length_nil] at h2;omega
  | cons x r=>unfold body;rw[List.flatMap_cons];simp;omega
 simp;omega
theorem CX:∀ (ws:List ByteArray) (L:List (List ByteArray)),oG ws=some L→(gK L).length≤(ws.map fun x=>x.size+1).sum
 | [], L, h => by
   have:L=[]:=by simpa [oG] using h.symm
   subst this;exact Nat.le_refl _
 | s :: r, L, h => by
   cases hu:eF (pcs 32 s) with
   | none=>rw[rC hu] at h;cases h
   | some x =>
     rw[rB hu] at h
     cases hr:oG r with
     | none=>rw[hr] at h;cases h
     | some L' =>
       rw[hr] at h;have e:L=x :: L':=by simpa using h.symm
       subst e;have h1:=CX r L' hr;have h2:=QF hu;unfold gK at h1 ⊢;rw[List.flatMap_cons,List.length_append,List.map_cons,List.sum_cons];omega
theorem PQ {S:ByteArray} {L:List (List ByteArray)} (h:vE S=some L):(gK L).length≤S.size:=by
 unfold vE at h;by_cases h0:S.data.toList=[]
 ·rw[if_pos h0] at h;have e:L=[]:=by simpa using h.symm
  subst e;exact Nat.zero_le _
 ·rw[if_neg h0] at h;by_cases h1:EF S=true
  ·rw[if_pos h1] at h;have h2:=CX _ _ h;have h3:=rE 10 _ (S.extract 0 (S.size-1)) rfl;unfold pcs at h2;rw[h3,ByteArray.size_extract] at h2
   have:0<S.size:=by rw[Lib.size_eq];cases hd:S.data.toList with
    | nil=>exact absurd hd h0
    | cons _ _=>simp
   omega
  ·rw[if_neg h1] at h;cases h
theorem PR {S:ByteArray} {L:List (List ByteArray)} (h:vE S=some L) (hs:S.size≤262144):(enc L).1=chk L:=by
 have:=PQ h;unfold enc
 split
 ·rename_i hk
  rw[if_neg zo,hk]
 ·rfl
theorem nR:∀ {L:List (List ByteArray)},bH L=0→∀ q ∈ L,bV q=0
 | [],_,_,hq=>by cases hq
 | l :: r, h, q, hq => by
   unfold bH at h;by_cases hl:bV l=0
   ·rw[if_pos hl] at h;rcases List.mem_cons.1 hq with rfl | hq
    ·exact hl
    ·exact nR h q hq
   ·rw[if_neg hl] at h;exact absurd h hl
theorem CI {q:List ByteArray} (h:bV q=0):q≠[]∧q.length≤120∧∀ s ∈ q,s.size≤32768:=by
 unfold bV at h;by_cases h0:q.length=0
 ·rw[if_pos h0] at h;cases h
 ·rw[if_neg h0] at h;by_cases h1:120<q.length∨q.any lng=true
  ·rw[if_pos h1] at h;cases h
  ·have h2:¬ 120<q.length:=fun k=>h1 (.inl k);have h3:¬ q.any lng=true:=fun k=>h1 (.inr k);refine⟨fun e=>h0 (by rw[e];rfl),by omega,fun s hs=>?_⟩;have h4:lng s=false:=by
    cases hl:lng s with
    | false=>rfl
    | true=>exact absurd (List.any_eq_true.2 ⟨s,hs,hl⟩) h3
   unfold lng at h4;have:=of_decide_eq_false h4;omega
theorem zZ {S:ByteArray} (h:(qJ S).1=0):(qJ S).2.length≤1000∧∀ q ∈ (qJ S).2,q≠[]∧q.length≤120∧∀ s ∈ q,s.size≤32768:=by
 unfold qJ at h ⊢;by_cases hb:262144<S.size
 ·rw[if_pos hb] at h;cases h
 ·rw[if_neg hb] at h ⊢
  cases hr:vE S with
  | none=>rw[hr] at h;cases h
  | some L =>
    rw[hr] at h;simp only at h ⊢;by_cases hc:chk L=0
    ·rw[if_pos hc];unfold chk at hc;by_cases h1:1000<L.length
     ·rw[if_pos h1] at hc;cases hc
     ·rw[if_neg h1] at hc;exact⟨by show L.length≤_;omega,fun q hq=>CI (nR hc q hq)⟩
    ·rw[if_neg hc] at h;cases h
theorem tS {w:World} {base e size:Nat} {v:Value} {n:Nat} {xs:List Value} (h:w.ownsRow base e size v n xs):∃ sp cap,v=.slice sp n cap:=by
 obtain⟨_,⟨rfl,rfl⟩ | ⟨g,cap,cur,rfl,_⟩⟩:=h
 ·exact⟨none,0,rfl⟩
 ·exact⟨_,cap,rfl⟩
theorem KZ {w:World} {base e size:Nat} {v:Value} {n:Nat} {xs:List Value} (h:w.ownsRow base e size v n xs):∀ k,v.ownBlock=some k→base≤k:=fun k hk=>(h.lt k hk).1
theorem oP {w w':World} {B e size n:Nat} {v:Value} {xs:List Value} (h:w.ownsRow B e size v n xs) (hb:Below w.heap.size w w'):w'.ownsRow B e size v n xs:=by
 obtain⟨h0,h1 | ⟨g,cap,cur,h1,h2,h3,h4⟩⟩:=h
 ·exact⟨h0,.inl h1⟩
 ·exact⟨h0,.inr ⟨g,cap,cur,h1,h2,(hb.block g (Array.getElem?_eq_some_iff.1 h3).1).trans h3,h4⟩⟩
theorem GD {w:World} {b1 b2 e1 e2 s1 s2:Nat} {v1 v2:Value} {n1 n2:Nat} {x1 x2:List Value} (h1:w.ownsRow b1 e1 s1 v1 n1 x1) (h2:w.ownsRow b2 e2 s2 v2 n2 x2) (hne:e1≠e2):v1.ownBlock=none∨v1.ownBlock≠v2.ownBlock:=by
 obtain⟨_,⟨rfl,_⟩ | ⟨g1,c1,u1,rfl,_,g1h,_⟩⟩:=h1
 ·exact .inl rfl
 ·obtain⟨_,⟨rfl,_⟩ | ⟨g2,c2,u2,rfl,_,g2h,_⟩⟩:=h2
  ·exact .inr (by simp[Value.ownBlock])
  ·refine .inr (fun e=>hne ?_);have e':g1=g2:=by simpa [Value.ownBlock] using e
   subst e';rw[g1h] at g2h;injection g2h with g2h
   injection g2h
theorem VR:(Tryz.prog.info? 55).map (fun i=>(i.zero,i.size,i.bytes))=some (some (.slice none 0 0),1,24):=by kernel_rfl
def LnOwnL (w:World) (base:Nat) (q:Ln):Prop:=w.ownsRow base 9 1 (.slice q.sp q.n q.cap) q.n (q.l.map Value.string)
theorem LnOwnL.strs {w:World} {base:Nat} {q:Ln} (h:LnOwnL w base q):StrsIn w w.heap.size q.sp q.n q.l:=by
 obtain⟨hl,h2⟩:=h;rw[List.length_map,Nat.mul_one] at hl;refine⟨hl,fun hn=>?_⟩;rcases h2 with ⟨e,h0⟩ | ⟨g,cap,cur,e,hb,hg,hc,hm,hs,ht⟩
 ·omega
 ·injection e with e1 e2 e3
  refine⟨g,0,e1,(Array.getElem?_eq_some_iff.1 hg).1,fun j hj=>?_⟩;rw[cell_of_row w g (0+j) cur _ _ hg,Nat.zero_add];have h5:(cur.toList.take (q.n*1))[j]? = some (.string q.l[j]):=by rw[ht];simp[hj]
  rw[List.getElem?_take,if_pos zo] at h5;simpa using h5
theorem LJ {w:World} {base base':Nat} {sp:Option Addr} {cap:Nat} {ls:List Ln} (h:w.ownsRow base 55 1 (.slice sp ls.length cap) ls.length (ls.map Ln.val)) (hq:∀ q ∈ ls,LnOwnL w base' q):LinesIn w w.heap.size sp ls.length ls:=by
 obtain⟨hl,h2⟩:=h;refine⟨rfl,fun hn=>?_,fun q hq'=>(hq q hq').strs⟩;rcases h2 with ⟨e,h0⟩ | ⟨g,cap',cur,e,hb,hg,hc,hm,hs,ht⟩
 ·omega
 ·injection e with e1 e2 e3
  refine⟨g,0,e1,(Array.getElem?_eq_some_iff.1 hg).1,fun j hj=>?_⟩;rw[cell_of_row w g (0+j) cur _ _ hg,Nat.zero_add];have h5:(cur.toList.take (ls.length*1))[j]? = some ls[j].val:=by rw[ht];simp[hj]
  rw[List.getElem?_take,if_pos zo] at h5;simpa using h5
structure LnsOwn (w:World) (base:Nat) (v:Value) (done:List Ln):Prop where
 row:w.ownsRow base 55 1 v done.length (done.map Ln.val)
 each:∀ q ∈ done,LnOwnL w base q
theorem LnsOwn.nil (w:World) (base:Nat):LnsOwn w base (.slice none 0 0) []:=⟨World.ownsRow_nil w base _ _,fun q hq=>by cases hq⟩
theorem LnsOwn.below {w w':World} {base:Nat} {v:Value} {done:List Ln} (h:LnsOwn w base v done) (hb:Below w.heap.size w w'):LnsOwn w' base v done :=
 ⟨oP h.row hb,fun q hq=>oP (h.each q hq) hb⟩
theorem LnsOwn.lines {w:World} {base:Nat} {sp:Option Addr} {n cap:Nat} {done:List Ln} (h:LnsOwn w base (.slice sp n cap) done) (hn:done.length=n):LinesIn w w.heap.size sp n done:=by
 subst hn;exact LJ h.row h.each
theorem mO {o:Oper} {a:Act} {w:World} {K:Act→World→Prop} {Q:Exit→Act→World→Prop} (s x:Operand)
 (ho:o.op=.call { callee:=.builtin .append,args:=#[s,x],argTypes:=#[57,57] }) (base:Nat) (v:Value) (done:List Ln) (n:Nat) (hn:n=done.length) (hs:a.eval s=v) (hown:LnsOwn w base v done)
 (g:Nat) (y:Ln) (hx:a.eval x=.slice (some ⟨g,0,none⟩) 1 1) (hc:w.cell? ⟨g,0,none⟩=some y.val) (hy:LnOwnL w base y) (hlen:n≤1000000) (hbase:base≤w.heap.size)
 (h:∀ sp cap w',Hid (LnsOwn w' base (.slice sp (n+1) cap) (done++[y]))→Hid (Below base w w')→Hid (w.grownBy w' v.ownBlock)→K (a.put o.dst (.slice sp (n+1) cap)) w'):o.wp Tryz.prog a w K Q:=by
 subst hn;obtain⟨i0,hi0,hz0,hz1,hz2⟩:=info_parts VR;refine wp_append_own w s x _ ho base _ i0 _ 1 24 Tryz.underlying57 hi0 hz0 hz1 hz2 rfl (by decide) v done.length _ hs hown.row ⟨g,0,none⟩ 1 1 [y.val] hx rfl ?_ (by intro u hu;simp at hu;subst hu;rfl) (by unfold maxLen;omega) zo hbase ?_
 ·intro j u hj;have hj0:j=0:=by have:=(List.getElem?_eq_some_iff.1 hj).1;simp at this;omega
  subst hj0;simp at hj;subst hj;rw[Addr.add_mid];exact hc
 ·intro v' w' h1 h2 _;obtain⟨sp,cap,rfl⟩:=tS h1;refine h sp cap w' ⟨by rw[List.length_append,List.map_append];exact h1,fun q hq=>?_⟩ ((Below.refl base w).grown h2 hbase (KZ hown.row)) h2;have hq1:LnOwnL w base q:=by
   rcases List.mem_append.1 hq with h | h
   ·exact hown.each q h
   ·rw[List.mem_singleton.1 h];exact hy
  exact World.ownsRow.kept hq1 h2 (GD hq1 hown.row (by decide))
theorem pE {P:Program} {o:Oper} {a:Act} {w:World} {K:Act→World→Prop} {Q:Exit→Act→World→Prop} (t:TypeId) (k:Nat) (parts:List (Nat × Operand)) (ho:o.op=.buildSlice t k parts.toArray)
 (vs:List (Nat × Value)) (hv:(parts.map fun (i,x)=>(i,a.eval x))=vs) (v:Value) (w':World) (hrun:(Instr.buildSlice t k vs.toArray).run P w=.ok v w') (h:K (a.put o.dst v) w'):o.wp P a w K Q:=by
 unfold Oper.wp execOp;simp only[ho,Sem.run_bind,List.map_toArray,hv,hrun,Result.andThen_ok];exact h
theorem nB {w:World} {b b' e size:Nat} {v:Value} {n:Nat} {xs:List Value} (h:w.ownsRow b e size v n xs) (hle:b'≤b):w.ownsRow b' e size v n xs:=by
 obtain⟨h1,h2⟩:=h;refine⟨h1,?_⟩;rcases h2 with h | ⟨g,cap,cur,h3,h4,h5⟩
 ·exact .inl h
 ·exact .inr ⟨g,cap,cur,h3,by omega,h5⟩
theorem yY {w:World} {g B n:Nat} {l:List ByteArray} (hg:w.heap[g]? = some (.cells (l.map Value.string).toArray 9 (0,0))) (hb:B≤g) (hn:l.length=n) (hmax:n≤1000):LnOwnL w B ⟨some ⟨g,0,none⟩,n,n,l⟩ :=
 ⟨by rw[List.length_map,hn,Nat.mul_one],.inr ⟨g,n,_,rfl,hb,hg,Nat.le_refl _,by unfold maxLen;omega,by simp[hn],by show (List.map Value.string l).take (n*1)=_;rw[Nat.mul_one];exact List.take_of_length_le (by simp[hn])⟩⟩
theorem LnOwnL.lower {w:World} {b b':Nat} {q:Ln} (h:LnOwnL w b q) (hb:b'≤b):LnOwnL w b' q:=nB h hb
theorem LnsOwn.lower {w:World} {b b':Nat} {v:Value} {l:List Ln} (h:LnsOwn w b v l) (hb:b'≤b):LnsOwn w b' v l:=⟨nB h.row hb,fun q hq=>(h.each q hq).lower hb⟩
theorem lO {o:Oper} {a:Act} {w:World} {K:Act→World→Prop} {Q:Exit→Act→World→Prop} (s x:Operand)
 (ho:o.op=.call { callee:=.builtin .append,args:=#[s,x],argTypes:=#[55,55] }) (B g:Nat) (l0:List ByteArray) (n0:Nat) (hn0:l0.length=n0) (h01:n0≤1000) (hs:a.eval s=.slice (some ⟨g,0,none⟩) n0 n0)
 (hg:w.heap[g]? = some (.cells (l0.map Value.string).toArray 9 (0,0))) (hB:B≤g) (hBw:B≤w.heap.size) (Bx:Nat) (pa:Option Addr) (np ncap:Nat) (l:List ByteArray) (hx:a.eval x=.slice pa np ncap) (hsrc:StrsIn w Bx pa np l) (hmax:np≤1000)
 (h:∀ sp cap w',Hid (LnOwnL w' B ⟨sp,n0+np,cap,l0++l⟩)→Hid (w.grownBy w' (some g))→K (a.put o.dst (.slice sp (n0+np) cap)) w'):o.wp Tryz.prog a w K Q:=by
 have hrow:=yY hg hB hn0 h01;obtain⟨i0,hi0,hz0,hz1,hz2⟩:=info_parts nH;by_cases h0:np=0
 ·subst h0;have hl:l=[]:=List.eq_nil_of_length_eq_zero hsrc.len;subst hl;have hrun:(Builtin.append_ #[55,55] o.type #[.slice (some ⟨g,0,none⟩) n0 n0,.slice pa 0 ncap]).run Tryz.prog w=.ok (.slice (some ⟨g,0,none⟩) n0 n0) w:=by
   refine run_append_nothing w _ _ _ 9 i0 Tryz.underlying55 hi0 _ _ _ zl _ ?_
   cases pa with
   | none=>exact Src.ofNil w Tryz.underlying55 ncap
   | some ad=>exact Src.ofSlice w Tryz.underlying55 ad 0 ncap [] (by simp) (fun j u h=>by simp at h) (fun u hu=>by cases hu)
  unfold Oper.wp execOp;simp only[ho,resolve,invoke,builtin,Sem.run_bind,Sem.run_pure,Result.andThen_ok,List.map_toArray,List.map_cons,List.map_nil,hs,hx,hrun];exact h _ _ w (by show LnOwnL _ _ _;rw[List.append_nil];exact hrow) (World.grownBy.refl _ _)
 ·obtain⟨b,off,rfl,hlt,hc⟩:=hsrc.cells zo;refine wp_append_own w s x _ ho B _ i0 _ 1 16 Tryz.underlying55 hi0 hz0 hz1 hz2 rfl (by decide) _ n0 _ hs hrow ⟨b,off,none⟩ np ncap (l.map Value.string) hx (by rw[List.length_map,hsrc.len,Nat.mul_one]) ?_ (by intro u hu;obtain⟨q,_,rfl⟩:=List.mem_map.1 hu;rfl) (by unfold maxLen;omega) zo hBw ?_
  ·intro j u hj;have hjb:j<l.length:=by have:=(List.getElem?_eq_some_iff.1 hj).1;simpa using this
   rw[Addr.add_mid,hc j hjb];simpa [List.getElem?_eq_getElem hjb] using hj
  ·intro v' w' h1 h2 _;obtain⟨sp,cap,rfl⟩:=tS h1;exact h sp cap w' (by show World.ownsRow _ _ _ _ _ _ _;rw[List.map_append];exact h1) h2
theorem pF (a b:List Ln):aD (a++b)=aD a++aD b:=by simp[aD]
theorem GE {w:World} {g B:Nat} {ls:List Ln} {n:Nat} (hg:w.heap[g]? = some (.cells (ls.map Ln.val).toArray 55 (0,0))) (hb:B≤g) (hn:ls.length=n) (hmax:n≤1000) (hq:∀ q ∈ ls,LnOwnL w B q):LnsOwn w B (.slice (some ⟨g,0,none⟩) n n) ls :=
 ⟨⟨by rw[List.length_map,Nat.mul_one],.inr ⟨g,n,_,by rw[hn],hb,hg,by omega,by unfold maxLen;omega,by simp[hn],by show (List.map Ln.val ls).take (ls.length*1)=_;rw[Nat.mul_one];exact List.take_of_length_le (by simp)⟩⟩,hq⟩
theorem LnOwnL.below {w w':World} {b:Nat} {q:Ln} (h:LnOwnL w b q) (hb:Below w.heap.size w w'):LnOwnL w' b q:=oP h hb
theorem LnOwnL.le {w:World} {b:Nat} {q:Ln} (h:LnOwnL w b q):q.n≤9223372036854775807:=by
 rcases h.2 with ⟨e,h0⟩ | ⟨g,cap,cur,e,_,_,h1,h2,_⟩
 ·omega
 ·unfold maxLen at h2;omega
end Go.Proofs.YtaeobegaodhpcaaGreatDoor
namespace Go.Proofs.YtaeobegaodhpcaaGreatDoor
open Go.RowKit Go.Proofs.YtaeobegaodhpcaaGreatDoor.One
def jB:ByteArray:=⟨#[115,105,103,110,97,116,117,114,101]⟩
def iE (p:Pg):List ByteArray:=[jB,mE p.h,iV p.r]++lP p.a p.l p.q
def pN (t:ByteArray) (b:List UInt8) (L:List Pg):List (List ByteArray):=[[mN,t,⟨b.toArray⟩]]++L.map iE
def WF (t:ByteArray) (b:List UInt8) (L:List Pg):Nat × List UInt8:=if fM t b L=true then enc (pN t b L) else (1,[])
theorem MS {t:ByteArray} {b:List UInt8} {L:List Pg} (h:fM t b L=false):WF t b L=(1,[]):=by unfold WF;rw[if_neg (by rw[h];simp)]
theorem EG {t:ByteArray} {b:List UInt8} {L:List Pg} (h:fM t b L=true):WF t b L=enc (pN t b L):=by unfold WF;rw[if_pos h]
def wdN (l:List ByteArray) (k:Nat):ByteArray:=l.getD k ⟨#[]⟩
def rsK (l:List ByteArray):Bool:=(decide (3≤l.length) && decide (wdN l 0=jB)) && ((pnk (wdN l 1).data.toList && decide (pnv (wdN l 1).data.toList≤6)) && (hpK (wdN l 2) && rdK (l.drop 3)))
def rsP (l:List ByteArray):Pg:=⟨pnv (wdN l 1).data.toList,hpB (wdN l 2),rdA (l.drop 3),rdC (l.drop 3),rdP (l.drop 3)⟩
def hdK (L:List (List ByteArray)):Bool:=decide (L.length≠0) && (decide ((L.getD 0 []).length=3) && decide (wdN (L.getD 0 []) 0=mN))
def fmK (L:List (List ByteArray)):Bool:=hdK L && (L.drop 1).all rsK
structure Ev where
 E:Nat
 t:ByteArray
 b:List UInt8
 L:List Pg
def evN (E:Nat):Ev:=⟨E,⟨#[]⟩,[],[]⟩
def jQ (L:List (List ByteArray)):Ev:=⟨0,wdN (L.getD 0 []) 1,(wdN (L.getD 0 []) 2).data.toList,(L.drop 1).map rsP⟩
def MY (r:Nat × List (List ByteArray)):Ev :=
 if r.1≠0 then evN r.1 else if fmK r.2=true then (if fM (jQ r.2).t (jQ r.2).b (jQ r.2).L=true then jQ r.2 else evN 1) else evN 2
theorem SI {p:Pg} (h:tL p=true):(0≤p.h∧p.h≤6)∧(0≤p.a∧p.a≤65535)∧p.l.length=68∧p.q.length≤6:=by
 unfold tL mA at h;have:=of_decide_eq_true h;obtain⟨h1,h2,h3,h4,h5⟩:=this;have h6:lvN p.h.toNat≤64:=by
  have:p.h.toNat≤6:=by omega
  generalize p.h.toNat=k at *;have hk:k=0∨k=1∨k=2∨k=3∨k=4∨k=5∨k=6:=by omega
  rcases hk with rfl | rfl | rfl | rfl | rfl | rfl | rfl <;> decide
 exact⟨h1,⟨h2,by omega⟩,h4,by omega⟩
theorem AP {t:ByteArray} {b:List UInt8} {L:List Pg} (hv:fM t b L=true):nmB t.data.toList=true∧b.length≤32768∧L.length≤8∧∀ p ∈ L,tL p=true:=by
 unfold fM at hv;simp only[Bool.and_eq_true,decide_eq_true_eq] at hv;refine⟨hv.1,hv.2.1,hv.2.2.1,fun p hp=>?_⟩;obtain⟨j,hj,e⟩:=List.getElem_of_mem hp;have h1:=hv.2.2.2;unfold vsB at h1;rw[List.all_eq_true] at h1;have h2:=h1 j (List.mem_range.2 hj);unfold tF at h2;rw[List.getElem?_eq_getElem hj,e] at h2;simp only[Bool.and_eq_true] at h2;exact h2.1
end Go.Proofs.YtaeobegaodhpcaaGreatDoor
