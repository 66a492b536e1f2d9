/-
  Plain mathematics: what is read is not longer when it is encoded (no program is named here but for its name space).
-/
import Derived.Test.YtaeobegaodhpcaaGreatDoorQ25
import Derived.Deep.Upon
set_option maxRecDepth 100000
set_option maxHeartbeats 8000000
namespace Go.Proofs.YtaeobegaodhpcaaGreatDoor
open Go.RowKit
def FT (c:UInt8) (ws:List ByteArray):List UInt8:=ws.flatMap fun x=>x.data.toList ++ [c]
theorem mA {q:List ByteArray} (h0:q ≠ []) (h1:q.length ≤ 120) (h2:∀ s ∈ q,s.size ≤ 32768):bE q = 0:=by
 unfold bE;rw [if_neg (fun h=>h0 (List.eq_nil_of_length_eq_zero h)),if_neg];rintro (h | h)
 ·omega
 ·obtain ⟨s,hs,hl⟩:=List.any_eq_true.1 h;unfold lng at hl;have:=of_decide_eq_true hl;have:=h2 s hs;omega
theorem lV:∀ {L:List (List ByteArray)},(∀ q ∈ L,bE q = 0) → aY L = 0
 | [],_=>rfl
 | l :: r, h => by
   unfold aY;rw [if_pos (h l (by simp))];exact lV fun q hq=>h q (by simp [hq])
theorem NC (s:ByteArray):(cI s.data.toList).length ≤ 3 * s.size + 1:=by
 unfold cI
 split
 ·simp
 ·have:=uD s.data.toList;rw [← Lib.size_eq] at this;omega
theorem MA:∀ q:List ByteArray,(body q).length ≤ 3 * (q.map ByteArray.size).sum + 2 * q.length
 | []=>by simp [body]
 | s :: q => by
   have h1:=MA q;have h2:=NC s;have e:body (s :: q) = (cI s.data.toList ++ [32]) ++ body q:=rfl;rw [e,List.length_append,List.length_append,List.length_singleton,List.map_cons,List.sum_cons,List.length_cons];omega
theorem CG (q:List ByteArray):(kG q).length ≤ 3 * (q.map ByteArray.size).sum + 2 * q.length + 1:=by
 have h1:=MA q;unfold kG;rw [List.length_append,List.length_dropLast,List.length_singleton];omega
theorem AO:∀ (L:List (List ByteArray)) (c:Nat),(∀ q ∈ L,(kG q).length ≤ c) → (dZ L).length ≤ L.length * c
 | [],c,_=>by simp [dZ]
 | q :: L, c, h => by
   have h1:=AO L c fun p hp=>h p (by simp [hp]);have h2:=h q (by simp);have e:dZ (q :: L) = kG q ++ dZ L:=rfl;rw [e,List.length_append,List.length_cons,Nat.succ_mul];omega
theorem YN {s:ByteArray} (h:nmB s.data.toList = true):s.size ≤ 64:=by
 unfold nmB at h;rw [Bool.and_eq_true,decide_eq_true_eq] at h;rw [Lib.size_eq];exact h.1
theorem lX:∀ {L:List (List ByteArray)},aY L = 0 → ∀ q ∈ L,bE q = 0
 | [],_,_,hq=>by cases hq
 | l :: r, h, q, hq => by
   unfold aY at h;by_cases hl:bE l = 0
   ·rw [if_pos hl] at h;rcases List.mem_cons.1 hq with rfl | hq
    ·exact hl
    ·exact lX h q hq
   ·rw [if_neg hl] at h;exact absurd h hl
theorem AU {q:List ByteArray} (h:bE q = 0):q ≠ [] ∧ q.length ≤ 120 ∧ ∀ s ∈ q,s.size ≤ 32768:=by
 unfold bE at h;by_cases h0:q.length = 0
 ·rw [if_pos h0] at h;cases h
 ·rw [if_neg h0] at h;by_cases h1:120 < q.length ∨ q.any lng = true
  ·rw [if_pos h1] at h;cases h
  ·have h2:¬ 120 < q.length:=fun k=>h1 (.inl k);have h3:¬ q.any lng = true:=fun k=>h1 (.inr k);refine ⟨fun e=>h0 (by rw [e];rfl),by omega,fun s hs=>?_⟩;have h4:lng s = false:=by
    cases hl:lng s with
    | false=>rfl
    | true=>exact absurd (List.any_eq_true.2 ⟨s,hs,hl⟩) h3
   unfold lng at h4;have:=of_decide_eq_false h4;omega
theorem LN {S:ByteArray} (h:(yR S).1 = 0):(yR S).2.length ≤ 1000 ∧ ∀ q ∈ (yR S).2,q ≠ [] ∧ q.length ≤ 120 ∧ ∀ s ∈ q,s.size ≤ 32768:=by
 unfold yR at h ⊢;by_cases hb:262144 < S.size
 ·rw [if_pos hb] at h;cases h
 ·rw [if_neg hb] at h ⊢
  cases hr:IT S with
  | none=>rw [hr] at h;cases h
  | some L =>
    rw [hr] at h;simp only at h ⊢;by_cases hc:chk L = 0
    ·rw [if_pos hc];unfold chk at hc;by_cases h1:1000 < L.length
     ·rw [if_pos h1] at hc;cases hc
     ·rw [if_neg h1] at hc;exact ⟨by show L.length ≤ _;omega,fun q hq=>AU (lX hc q hq)⟩
    ·rw [if_neg hc] at h;cases h
theorem sF {w:World} {base e size:Nat} {v:Value} {n:Nat} {xs:List Value} (h:w.ownsRow base e size v n xs):∃ sp cap,v = .slice sp n cap:=by
 obtain ⟨_,⟨rfl,rfl⟩ | ⟨g,cap,cur,rfl,_⟩⟩:=h
 ·exact ⟨none,0,rfl⟩
 ·exact ⟨_,cap,rfl⟩
theorem JJ {w:World} {base e size:Nat} {v:Value} {n:Nat} {xs:List Value} (h:w.ownsRow base e size v n xs):∀ k,v.ownBlock = some k → base ≤ k:=fun k hk=>(h.lt k hk).1
theorem mW {w w':World} {B e size n:Nat} {v:Value} {xs:List Value} (h:w.ownsRow B e size v n xs) (hb:Below w.heap.size w w'):w'.ownsRow B e size v n xs:=by
 obtain ⟨h0,h1 | ⟨g,cap,cur,h1,h2,h3,h4⟩⟩:=h
 ·exact ⟨h0,.inl h1⟩
 ·exact ⟨h0,.inr ⟨g,cap,cur,h1,h2,(hb.block g (Array.getElem?_eq_some_iff.1 h3).1).trans h3,h4⟩⟩
theorem EG {w:World} {b1 b2 e1 e2 s1 s2:Nat} {v1 v2:Value} {n1 n2:Nat} {x1 x2:List Value} (h1:w.ownsRow b1 e1 s1 v1 n1 x1) (h2:w.ownsRow b2 e2 s2 v2 n2 x2) (hne:e1 ≠ e2):v1.ownBlock = none ∨ v1.ownBlock ≠ v2.ownBlock:=by
 obtain ⟨_,⟨rfl,_⟩ | ⟨g1,c1,u1,rfl,_,g1h,_⟩⟩:=h1
 ·exact .inl rfl
 ·obtain ⟨_,⟨rfl,_⟩ | ⟨g2,c2,u2,rfl,_,g2h,_⟩⟩:=h2
  ·exact .inr (by simp [Value.ownBlock])
  ·refine .inr (fun e=>hne ?_);have e':g1 = g2:=by simpa [Value.ownBlock] using e
   subst e';rw [g1h] at g2h;injection g2h with g2h
   injection g2h
theorem UR:(Tryz.prog.info? 55).map (fun i=>(i.zero,i.size,i.bytes)) = some (some (.slice none 0 0),1,24):=by kernel_rfl
def LnOwnL (w:World) (base:Nat) (q:Ln):Prop:=w.ownsRow base 9 1 (.slice q.sp q.n q.cap) q.n (q.l.map Value.string)
theorem LnOwnL.strs {w:World} {base:Nat} {q:Ln} (h:LnOwnL w base q):StrsIn w w.heap.size q.sp q.n q.l:=by
 obtain ⟨hl,h2⟩:=h;rw [List.length_map,Nat.mul_one] at hl;refine ⟨hl,fun hn=>?_⟩;rcases h2 with ⟨e,h0⟩ | ⟨g,cap,cur,e,hb,hg,hc,hm,hs,ht⟩
 ·omega
 ·injection e with e1 e2 e3
  refine ⟨g,0,e1,(Array.getElem?_eq_some_iff.1 hg).1,fun j hj=>?_⟩;rw [cell_of_row w g (0 + j) cur _ _ hg,Nat.zero_add];have h5:(cur.toList.take (q.n * 1))[j]? = some (.string q.l[j]):=by rw [ht];simp [hj]
  rw [List.getElem?_take,if_pos (by omega)] at h5;simpa using h5
theorem JV {w:World} {base base':Nat} {sp:Option Addr} {cap:Nat} {ls:List Ln} (h:w.ownsRow base 55 1 (.slice sp ls.length cap) ls.length (ls.map Ln.val)) (hq:∀ q ∈ ls,LnOwnL w base' q):LinesIn w w.heap.size sp ls.length ls:=by
 obtain ⟨hl,h2⟩:=h;refine ⟨rfl,fun hn=>?_,fun q hq'=>(hq q hq').strs⟩;rcases h2 with ⟨e,h0⟩ | ⟨g,cap',cur,e,hb,hg,hc,hm,hs,ht⟩
 ·omega
 ·injection e with e1 e2 e3
  refine ⟨g,0,e1,(Array.getElem?_eq_some_iff.1 hg).1,fun j hj=>?_⟩;rw [cell_of_row w g (0 + j) cur _ _ hg,Nat.zero_add];have h5:(cur.toList.take (ls.length * 1))[j]? = some ls[j].val:=by rw [ht];simp [hj]
  rw [List.getElem?_take,if_pos (by omega)] at h5;simpa using h5
structure LnsOwn (w:World) (base:Nat) (v:Value) (done:List Ln):Prop where
 row:w.ownsRow base 55 1 v done.length (done.map Ln.val)
 each:∀ q ∈ done,LnOwnL w base q
theorem LnsOwn.nil (w:World) (base:Nat):LnsOwn w base (.slice none 0 0) []:=⟨World.ownsRow_nil w base _ _,fun q hq=>by cases hq⟩
theorem LnsOwn.below {w w':World} {base:Nat} {v:Value} {done:List Ln} (h:LnsOwn w base v done) (hb:Below w.heap.size w w'):LnsOwn w' base v done :=
 ⟨mW h.row hb,fun q hq=>mW (h.each q hq) hb⟩
theorem LnsOwn.lines {w:World} {base:Nat} {sp:Option Addr} {n cap:Nat} {done:List Ln} (h:LnsOwn w base (.slice sp n cap) done) (hn:done.length = n):LinesIn w w.heap.size sp n done:=by
 subst hn;exact JV h.row h.each
theorem tF {o:Oper} {a:Act} {w:World} {K:Act → World → Prop} {Q:Exit → Act → World → Prop} (s x:Operand)
 (ho:o.op = .call { callee:=.builtin .append,args:=#[s,x],argTypes:=#[57,57] }) (base:Nat) (v:Value) (done:List Ln) (n:Nat) (hn:n = done.length) (hs:a.eval s = v) (hown:LnsOwn w base v done)
 (g:Nat) (y:Ln) (hx:a.eval x = .slice (some ⟨g,0,none⟩) 1 1) (hc:w.cell? ⟨g,0,none⟩ = some y.val) (hy:LnOwnL w base y) (hlen:n ≤ 1000000) (hbase:base ≤ w.heap.size)
 (h:∀ sp cap w',Hid (LnsOwn w' base (.slice sp (n + 1) cap) (done ++ [y])) → Hid (Below base w w') → Hid (w.grownBy w' v.ownBlock) → K (a.put o.dst (.slice sp (n + 1) cap)) w'):o.wp Tryz.prog a w K Q:=by
 subst hn;obtain ⟨i0,hi0,hz0,hz1,hz2⟩:=info_parts UR;refine wp_append_own w s x _ ho base _ i0 _ 1 24 Tryz.underlying57 hi0 hz0 hz1 hz2 rfl (by decide) v done.length _ hs hown.row ⟨g,0,none⟩ 1 1 [y.val] hx rfl ?_ (by intro u hu;simp at hu;subst hu;rfl) (by unfold maxLen;omega) (by omega) hbase ?_
 ·intro j u hj;have hj0:j = 0:=by have:=(List.getElem?_eq_some_iff.1 hj).1;simp at this;omega
  subst hj0;simp at hj;subst hj;rw [Addr.add_mid];exact hc
 ·intro v' w' h1 h2 _;obtain ⟨sp,cap,rfl⟩:=sF h1;refine h sp cap w' ⟨by rw [List.length_append,List.map_append];exact h1,fun q hq=>?_⟩ ((Below.refl base w).grown h2 hbase (JJ hown.row)) h2;have hq1:LnOwnL w base q:=by
   rcases List.mem_append.1 hq with h | h
   ·exact hown.each q h
   ·rw [List.mem_singleton.1 h];exact hy
  exact World.ownsRow.kept hq1 h2 (EG hq1 hown.row (by decide))
theorem vI {P:Program} {o:Oper} {a:Act} {w:World} {K:Act → World → Prop} {Q:Exit → Act → World → Prop} (t:TypeId) (k:Nat) (parts:List (Nat × Operand)) (ho:o.op = .buildSlice t k parts.toArray)
 (vs:List (Nat × Value)) (hv:(parts.map fun (i,x)=>(i,a.eval x)) = vs) (v:Value) (w':World) (hrun:(Instr.buildSlice t k vs.toArray).run P w = .ok v w') (h:K (a.put o.dst v) w'):o.wp P a w K Q:=by
 unfold Oper.wp execOp;simp only [ho,Sem.run_bind,List.map_toArray,hv,hrun,Result.andThen_ok];exact h
theorem pT {w:World} {b b' e size:Nat} {v:Value} {n:Nat} {xs:List Value} (h:w.ownsRow b e size v n xs) (hle:b' ≤ b):w.ownsRow b' e size v n xs:=by
 obtain ⟨h1,h2⟩:=h;refine ⟨h1,?_⟩;rcases h2 with h | ⟨g,cap,cur,h3,h4,h5⟩
 ·exact .inl h
 ·exact .inr ⟨g,cap,cur,h3,by omega,h5⟩
theorem xG {w:World} {g B n:Nat} {l:List ByteArray} (hg:w.heap[g]? = some (.cells (l.map Value.string).toArray 9 (0,0))) (hb:B ≤ g) (hn:l.length = n) (hmax:n ≤ 1000):LnOwnL w B ⟨some ⟨g,0,none⟩,n,n,l⟩ :=
 ⟨by rw [List.length_map,hn,Nat.mul_one],.inr ⟨g,n,_,rfl,hb,hg,Nat.le_refl _,by unfold maxLen;omega,by simp [hn],by show (List.map Value.string l).take (n * 1) = _;rw [Nat.mul_one];exact List.take_of_length_le (by simp [hn])⟩⟩
theorem LnOwnL.lower {w:World} {b b':Nat} {q:Ln} (h:LnOwnL w b q) (hb:b' ≤ b):LnOwnL w b' q:=pT h hb
theorem LnsOwn.lower {w:World} {b b':Nat} {v:Value} {l:List Ln} (h:LnsOwn w b v l) (hb:b' ≤ b):LnsOwn w b' v l:=⟨pT h.row hb,fun q hq=>(h.each q hq).lower hb⟩
theorem qT {o:Oper} {a:Act} {w:World} {K:Act → World → Prop} {Q:Exit → Act → World → Prop} (s x:Operand)
 (ho:o.op = .call { callee:=.builtin .append,args:=#[s,x],argTypes:=#[55,55] }) (B g:Nat) (l0:List ByteArray) (n0:Nat) (hn0:l0.length = n0) (h01:n0 ≤ 1000) (hs:a.eval s = .slice (some ⟨g,0,none⟩) n0 n0)
 (hg:w.heap[g]? = some (.cells (l0.map Value.string).toArray 9 (0,0))) (hB:B ≤ g) (hBw:B ≤ w.heap.size) (Bx:Nat) (pa:Option Addr) (np ncap:Nat) (l:List ByteArray) (hx:a.eval x = .slice pa np ncap) (hsrc:StrsIn w Bx pa np l) (hmax:np ≤ 1000)
 (h:∀ sp cap w',Hid (LnOwnL w' B ⟨sp,n0 + np,cap,l0 ++ l⟩) → Hid (w.grownBy w' (some g)) → K (a.put o.dst (.slice sp (n0 + np) cap)) w'):o.wp Tryz.prog a w K Q:=by
 have hrow:=xG hg hB hn0 h01;obtain ⟨i0,hi0,hz0,hz1,hz2⟩:=info_parts oX;by_cases h0:np = 0
 ·subst h0;have hl:l = []:=List.eq_nil_of_length_eq_zero hsrc.len;subst hl;have hrun:(Builtin.append_ #[55,55] o.type #[.slice (some ⟨g,0,none⟩) n0 n0,.slice pa 0 ncap]).run Tryz.prog w = .ok (.slice (some ⟨g,0,none⟩) n0 n0) w:=by
   refine run_append_nothing w _ _ _ 9 i0 Tryz.underlying55 hi0 _ _ _ (Nat.le_refl _) _ ?_
   cases pa with
   | none=>exact Src.ofNil w Tryz.underlying55 ncap
   | some ad=>exact Src.ofSlice w Tryz.underlying55 ad 0 ncap [] (by simp) (fun j u h=>by simp at h) (fun u hu=>by cases hu)
  unfold Oper.wp execOp;simp only [ho,resolve,invoke,builtin,Sem.run_bind,Sem.run_pure,Result.andThen_ok,List.map_toArray,List.map_cons,List.map_nil,hs,hx,hrun];exact h _ _ w (by show LnOwnL _ _ _;rw [List.append_nil];exact hrow) (World.grownBy.refl _ _)
 ·obtain ⟨b,off,rfl,hlt,hc⟩:=hsrc.cells (by omega);refine wp_append_own w s x _ ho B _ i0 _ 1 16 Tryz.underlying55 hi0 hz0 hz1 hz2 rfl (by decide) _ n0 _ hs hrow ⟨b,off,none⟩ np ncap (l.map Value.string) hx (by rw [List.length_map,hsrc.len,Nat.mul_one]) ?_ (by intro u hu;obtain ⟨q,_,rfl⟩:=List.mem_map.1 hu;rfl) (by unfold maxLen;omega) (by omega) hBw ?_
  ·intro j u hj;have hjb:j < l.length:=by have:=(List.getElem?_eq_some_iff.1 hj).1;simpa using this
   rw [Addr.add_mid,hc j hjb];simpa [List.getElem?_eq_getElem hjb] using hj
  ·intro v' w' h1 h2 _;obtain ⟨sp,cap,rfl⟩:=sF h1;exact h sp cap w' (by show World.ownsRow _ _ _ _ _ _ _;rw [List.map_append];exact h1) h2
theorem vK (a b:List Ln):aJ (a ++ b) = aJ a ++ aJ b:=by simp [aJ]
theorem EH {w:World} {g B:Nat} {ls:List Ln} {n:Nat} (hg:w.heap[g]? = some (.cells (ls.map Ln.val).toArray 55 (0,0))) (hb:B ≤ g) (hn:ls.length = n) (hmax:n ≤ 1000) (hq:∀ q ∈ ls,LnOwnL w B q):LnsOwn w B (.slice (some ⟨g,0,none⟩) n n) ls :=
 ⟨⟨by rw [List.length_map,Nat.mul_one],.inr ⟨g,n,_,by rw [hn],hb,hg,by omega,by unfold maxLen;omega,by simp [hn],by show (List.map Ln.val ls).take (ls.length * 1) = _;rw [Nat.mul_one];exact List.take_of_length_le (by simp)⟩⟩,hq⟩
theorem LnOwnL.below {w w':World} {b:Nat} {q:Ln} (h:LnOwnL w b q) (hb:Below w.heap.size w w'):LnOwnL w' b q:=mW h hb
theorem LnOwnL.le {w:World} {b:Nat} {q:Ln} (h:LnOwnL w b q):q.n ≤ 9223372036854775807:=by
 rcases h.2 with ⟨e,h0⟩ | ⟨g,cap,cur,e,_,_,h1,h2,_⟩
 ·omega
 ·unfold maxLen at h2;omega
theorem uB (c:UInt8) (ps:List ByteArray) (h:ps ≠ []):∃ rest,FT c ps = rest ++ [c]:=by
 obtain ⟨r,p,rfl⟩:∃ r p,ps = r ++ [p]:=⟨ps.dropLast,ps.getLast h,(List.dropLast_concat_getLast h).symm⟩;exact ⟨FT c r ++ p.data.toList,by unfold FT;rw [List.flatMap_append];simp⟩
theorem mP (c:UInt8):∀ (ps:List ByteArray),ps ≠ [] → (∀ p ∈ ps,∀ x ∈ p.data.toList,x ≠ c) → ∀ s:ByteArray,s.data.toList ++ [c] = FT c ps → pcs c s = ps
 | [],h,_,_,_=>absurd rfl h
 | [p], _, hf, s, hs => by
   have e:s.data.toList = p.data.toList:=by
    have:FT c [p] = p.data.toList ++ [c]:=by unfold FT;simp
    rw [this] at hs;exact List.append_cancel_right hs
   have es:s = p:=by apply ByteArray.ext;apply Array.ext';exact e
   subst es;have hm:Lib.indexB s (eN c) = -1:=by
    rcases Lib.indexB_cases s (eN c) with hix | ⟨i,hix,_⟩
    ·exact hix
    ·exfalso;rw [iP] at hix;have hi:=(Lib.indexByte_some hix).1;exact hf s (by simp) c (List.mem_of_getElem? hi) rfl
   unfold pcs;exact nK s c hm _
 | p :: q :: r, _, hf, s, hs => by
   obtain ⟨rest,hr⟩:=uB c (q :: r) (by simp);have hsl:s.data.toList = p.data.toList ++ c :: rest:=by
    have:FT c (p :: q :: r) = (p.data.toList ++ c :: rest) ++ [c]:=by
     unfold FT at hr ⊢;rw [List.flatMap_cons,hr];simp
    rw [this] at hs;exact List.append_cancel_right hs
   have hpl:p.data.toList.length = p.size:=(Lib.size_eq p).symm;have hat:s.data.toList[p.size]? = some c:=by
    rw [hsl,List.getElem?_append_right (by omega),hpl,Nat.sub_self];rfl
   have hix:Lib.indexB s (eN c) = (p.size:Int):=by
    rcases Lib.indexB_cases s (eN c) with h1 | ⟨i,h1,_⟩
    ·rw [iP] at h1;exact absurd hat (Lib.indexByte_none h1 _)
    ·rw [h1];rw [iP] at h1;obtain ⟨h2,h3⟩:=Lib.indexByte_some h1;have hle:¬ p.size < i:=fun h=>h3 p.size h hat;have hge:¬ i < p.size:=fun h=>by
      rw [hsl,List.getElem?_append_left (by omega)] at h2;exact hf p (by simp) c (List.mem_of_getElem? h2) rfl
     have:i = p.size:=by omega
     rw [this]
   have ssz:s.size = p.size + 1 + rest.length:=by rw [Lib.size_eq,hsl,List.length_append,List.length_cons,hpl];omega
   have e1:s.extract 0 (p.size + 0) = p:=by
    apply ByteArray.ext;apply Array.ext';rw [ByteArray.data_extract,Array.toList_extract,List.extract_eq_take_drop,hsl,List.drop_zero,show p.size + 0 - 0 = p.data.toList.length by omega,List.take_left]
   have e2:(s.extract (p.size + 1) s.size).data.toList = rest:=by
    rw [ByteArray.data_extract,Array.toList_extract,List.extract_eq_take_drop,hsl,List.drop_append];rw [List.drop_eq_nil_of_le (by omega),hpl,show p.size + 1 - p.size = 1 by omega];show ([] ++ rest).take _ = rest;rw [List.nil_append,List.take_of_length_le (by omega)]
   have ih:=mP c (q :: r) (by simp) (fun x hx=>hf x (List.mem_cons_of_mem _ hx)) (s.extract (p.size + 1) s.size) (by rw [e2,hr]);unfold pcs at ih ⊢;rw [Lib.countB_hit s (eN c) p.size (Nat.le_refl _) hix,jI,Nat.add_comm 1,Lib.splitB_hit (eN c) 0 _ s p.size hix,jI,e1,ih]
def yW (x:ByteArray):ByteArray:=⟨(cI x.data.toList).toArray⟩
def wM (l:List ByteArray):ByteArray:=⟨(body l).dropLast.toArray⟩
theorem yI (l:List ByteArray):body l = FT 32 (l.map yW):=by
 unfold body FT;rw [List.flatMap_map];rfl
theorem OE {l:List ByteArray} (h:l ≠ []):(wM l).data.toList ++ [32] = body l:=by
 obtain ⟨rest,hr⟩:=uB 32 (l.map yW) (by simpa using h);show (body l).dropLast ++ [32] = body l;rw [yI,hr,List.dropLast_concat]
theorem rL (x:ByteArray):∀ y ∈ (yW x).data.toList,y ≠ 32 ∧ y ≠ 10:=by
 intro y hy;have:=yV x.data.toList y hy;exact ⟨fun e=>by rw [e] at this;exact absurd this.1 (by decide),fun e=>by rw [e] at this;exact absurd this.1 (by decide)⟩
theorem pE:∀ l:List ByteArray,fQ (l.map yW) = some l
 | []=>rfl
 | x :: r => by
   have h:RJ (yW x) = some x:=by
    unfold RJ yW;show (gZ (cI x.data.toList)).map _ = _;rw [vS];simp
   rw [List.map_cons,rP h,pE r];rfl
theorem OD {l:List ByteArray} (h:l ≠ []):fQ (pcs 32 (wM l)) = some l:=by
 rw [mP 32 (l.map yW) (by simpa using h) (fun p hp=>?_) (wM l) (by rw [OE h,yI]),pE];obtain ⟨x,_,rfl⟩:=List.mem_map.1 hp;exact fun y hy=>(rL x y hy).1
theorem OF (l:List ByteArray):∀ y ∈ (wM l).data.toList,y ≠ 10:=by
 intro y hy;have hy2:y ∈ body l:=List.dropLast_subset _ hy;unfold body at hy2;obtain ⟨x,_,hx⟩:=List.mem_flatMap.1 hy2;rcases List.mem_append.1 hx with h | h
 ·exact (rL x y h).2
 ·rw [List.mem_singleton.1 h];decide
theorem LG (ls:List (List ByteArray)):dZ ls = FT 10 (ls.map wM):=by
 unfold dZ FT;rw [List.flatMap_map];rfl
theorem vW:∀ ls:List (List ByteArray),(∀ l ∈ ls,l ≠ []) → tM (ls.map wM) = some ls
 | [],_=>rfl
 | l :: r, h => by
   rw [List.map_cons,vV (OD (h l (by simp))),vW r (fun x hx=>h x (List.mem_cons_of_mem _ hx))];rfl
theorem qA:∀ ls:List (List ByteArray),aY ls = 0 → ∀ l ∈ ls,l ≠ []
 | [],_,l,hl=>by cases hl
 | x :: r, h, l, hl => by
   unfold aY at h;by_cases hx:bE x = 0
   ·rw [if_pos hx] at h;rcases List.mem_cons.1 hl with e | e
    ·subst e;rintro rfl;unfold bE at hx;simp at hx
    ·exact qA r h l e
   ·rw [if_neg hx] at h;exact absurd h hx
theorem ZG {ls:List (List ByteArray)} (h:chk ls = 0):∀ l ∈ ls,l ≠ []:=by
 unfold chk at h
 split at h
 ·cases h
 ·exact qA ls h
theorem tU {ls:List (List ByteArray)} (h:chk ls = 0):IT ⟨(dZ ls).toArray⟩ = some ls:=by
 by_cases h0:ls = []
 ·subst h0;rfl
 ·obtain ⟨rest,hr⟩:=uB 10 (ls.map wM) (by simpa using h0);have he:=LG ls;have hd:(⟨(dZ ls).toArray⟩:ByteArray).data.toList = rest ++ [10]:=by show dZ ls = _;rw [he,hr]
  unfold IT;rw [if_neg (by rw [hd];simp),if_pos (by unfold FU;rw [hd];simp)];have e:((⟨(dZ ls).toArray⟩:ByteArray).extract 0 ((⟨(dZ ls).toArray⟩:ByteArray).size - 1)).data.toList = rest:=by
   rw [ByteArray.data_extract,Array.toList_extract,List.extract_eq_take_drop,List.drop_zero,Nat.sub_zero,Lib.size_eq,hd];simp
  rw [mP 10 (ls.map wM) (by simpa using h0) (fun p hp=>?_) _ (by rw [e,hr]),vW ls (ZG h)];obtain ⟨x,_,rfl⟩:=List.mem_map.1 hp;exact OF x
end Go.Proofs.YtaeobegaodhpcaaGreatDoor
namespace Go.Proofs.YtaeobegaodhpcaaGreatDoor
open Go.RowKit Go.Proofs.YtaeobegaodhpcaaGreatDoor.One
def kF:ByteArray:=⟨#[115,105,103,110,97,116,117,114,101]⟩
def dH (p:Pg):List ByteArray:=[kF,oU p.h,kY p.r] ++ eP p.a p.l p.q
def cO (t:ByteArray) (b:List UInt8) (L:List Pg):List (List ByteArray):=[[lB,t,⟨b.toArray⟩]] ++ L.map dH
def MV (t:ByteArray) (b:List UInt8) (L:List Pg):Nat × List UInt8:=if eU t b L = true then enc (cO t b L) else (1,[])
theorem LD {t:ByteArray} {b:List UInt8} {L:List Pg} (h:eU t b L = false):MV t b L = (1,[]):=by unfold MV;rw [if_neg (by rw [h];simp)]
theorem CQ {t:ByteArray} {b:List UInt8} {L:List Pg} (h:eU t b L = true):MV t b L = enc (cO t b L):=by unfold MV;rw [if_pos h]
def wdN (l:List ByteArray) (k:Nat):ByteArray:=l.getD k ⟨#[]⟩
def rsK (l:List ByteArray):Bool:=(decide (3 ≤ l.length) && decide (wdN l 0 = kF)) && ((pnk (wdN l 1).data.toList && decide (pnv (wdN l 1).data.toList ≤ 6)) && (hpK (wdN l 2) && rdK (l.drop 3)))
def rsP (l:List ByteArray):Pg:=⟨pnv (wdN l 1).data.toList,hpB (wdN l 2),rdA (l.drop 3),rdC (l.drop 3),rdP (l.drop 3)⟩
def hdK (L:List (List ByteArray)):Bool:=decide (L.length ≠ 0) && (decide ((L.getD 0 []).length = 3) && decide (wdN (L.getD 0 []) 0 = lB))
def fmK (L:List (List ByteArray)):Bool:=hdK L && (L.drop 1).all rsK
structure Ev where
 E:Nat
 t:ByteArray
 b:List UInt8
 L:List Pg
def evN (E:Nat):Ev:=⟨E,⟨#[]⟩,[],[]⟩
def jM (L:List (List ByteArray)):Ev:=⟨0,wdN (L.getD 0 []) 1,(wdN (L.getD 0 []) 2).data.toList,(L.drop 1).map rsP⟩
def LM (r:Nat × List (List ByteArray)):Ev :=
 if r.1 ≠ 0 then evN r.1 else if fmK r.2 = true then (if eU (jM r.2).t (jM r.2).b (jM r.2).L = true then jM r.2 else evN 1) else evN 2
theorem BP {p:Pg} (h:qY p = true):(0 ≤ p.h ∧ p.h ≤ 6) ∧ (0 ≤ p.a ∧ p.a ≤ 65535) ∧ p.l.length = 68 ∧ p.q.length ≤ 6:=by
 unfold qY kS at h;have:=of_decide_eq_true h;obtain ⟨h1,h2,h3,h4,h5⟩:=this;have h6:lvN p.h.toNat ≤ 64:=by
  have:p.h.toNat ≤ 6:=by omega
  generalize p.h.toNat = k at *;have hk:k = 0 ∨ k = 1 ∨ k = 2 ∨ k = 3 ∨ k = 4 ∨ k = 5 ∨ k = 6:=by omega
  rcases hk with rfl | rfl | rfl | rfl | rfl | rfl | rfl <;> decide
 exact ⟨h1,⟨h2,by omega⟩,h4,by omega⟩
theorem BZ {n:Int} (h0:0 ≤ n) (h1:n ≤ 1099511627776):pnk (oU n).data.toList = true ∧ pnv (oU n).data.toList = n:=by
 have hn:(oU n).data.toList = Lib.itoa n:=rfl;have hk:=BT n;rw [hn];exact ⟨by rw [hk.1];simp [h0,h1],hk.2 h0 h1⟩
theorem xI {p:Pg} (h:qY p = true) (hr:H16 p.r) (hl:∀ x ∈ p.l,H16 x) (hq:∀ x ∈ p.q,H16 x):rsK (dH p) = true ∧ rsP (dH p) = p:=by
 obtain ⟨h1,h2,h3,h4⟩:=BP h;obtain ⟨w1,w2,w3,w4⟩:=DI h2.1 h2.2 h3 h4 hl hq;obtain ⟨n1,n2⟩:=BZ h1.1 (by omega);obtain ⟨f1,f2⟩:=oT hr;have e0:wdN (dH p) 0 = kF:=rfl;have e1:wdN (dH p) 1 = oU p.h:=rfl;have e2:wdN (dH p) 2 = kY p.r:=rfl;have e3:(dH p).drop 3 = eP p.a p.l p.q:=rfl;have e4:3 ≤ (dH p).length:=by unfold dH;rw [List.length_append];exact Nat.le_add_right 3 _
 constructor
 ·unfold rsK;rw [e0,e1,e2,e3,n1,n2,f1,w1,decide_eq_true e4,decide_eq_true h1.2];simp
 ·unfold rsP;rw [e1,e2,e3,n2,f2,w2,w3,w4]
theorem tI {t:ByteArray} {b:List UInt8} {L:List Pg} (hv:eU t b L = true):nmB t.data.toList = true ∧ b.length ≤ 32768 ∧ L.length ≤ 8 ∧ ∀ p ∈ L,qY p = true:=by
 unfold eU at hv;simp only [Bool.and_eq_true,decide_eq_true_eq] at hv;refine ⟨hv.1,hv.2.1,hv.2.2.1,fun p hp=>?_⟩;obtain ⟨j,hj,e⟩:=List.getElem_of_mem hp;have h1:=hv.2.2.2;unfold vsB at h1;rw [List.all_eq_true] at h1;have h2:=h1 j (List.mem_range.2 hj);unfold rO at h2;rw [List.getElem?_eq_getElem hj,e] at h2;simp only [Bool.and_eq_true] at h2;exact h2.1
theorem EI {t:ByteArray} {b:List UInt8} {L:List Pg} (hv:eU t b L = true) (hL:∀ p ∈ L,H16 p.r ∧ (∀ x ∈ p.l,H16 x) ∧ ∀ x ∈ p.q,H16 x):fmK (cO t b L) = true ∧ jM (cO t b L) = ⟨0,t,b,L⟩:=by
 obtain ⟨_,_,_,hs⟩:=tI hv;have hd:(cO t b L).drop 1 = L.map dH:=rfl;have h0:(cO t b L).getD 0 [] = [lB,t,⟨b.toArray⟩]:=rfl;constructor
 ·unfold fmK hdK;rw [hd,h0];have h1:(L.map dH).all rsK = true:=by
   rw [List.all_eq_true];intro q hq;obtain ⟨p,hp,rfl⟩:=List.mem_map.1 hq;exact (xI (hs p hp) (hL p hp).1 (hL p hp).2.1 (hL p hp).2.2).1
  rw [h1];have h2:(cO t b L).length ≠ 0:=by unfold cO;simp
  rw [decide_eq_true h2];rfl
 ·unfold jM;rw [hd,h0,List.map_map];have h1:L.map (rsP ∘ dH) = L:=by
   refine (List.map_congr_left fun p hp=>?_).trans (List.map_id L);exact (xI (hs p hp) (hL p hp).1 (hL p hp).2.1 (hL p hp).2.2).2
  rw [h1];rfl
theorem AJ {x:List Int} (h:H16 x):(kY x).size = 32:=by
 rw [Lib.size_eq];show (qQ x).length = 32;rw [iR,h.1]
theorem RT {n:Int} (h0:0 ≤ n) (h1:n ≤ 1099511627776):(oU n).size ≤ 13:=by
 have hk1:=(BZ h0 h1).1;rw [Lib.size_eq];show (Lib.itoa n).length ≤ 13;by_cases hl:13 < (Lib.itoa n).length
 ·have:=(OM hl).1;have e:(oU n).data.toList = Lib.itoa n:=rfl;rw [e,this] at hk1;cases hk1
 ·omega
theorem RK (k:Nat):∀ l:List ByteArray,(∀ y ∈ l,y.size ≤ k) → (l.map ByteArray.size).sum ≤ k * l.length
 | [],_=>by simp
 | a :: r, h => by
   have h1:=RK k r fun y hy=>h y (by simp [hy]);have h2:=h a (by simp);rw [List.map_cons,List.sum_cons,List.length_cons,Nat.mul_succ];omega
theorem EX {t:ByteArray} {b:List UInt8} {L:List Pg} (hv:eU t b L = true) (hL:∀ p ∈ L,H16 p.r ∧ (∀ x ∈ p.l,H16 x) ∧ ∀ x ∈ p.q,H16 x):(enc (cO t b L)).1 = 0 ∧ chk (cO t b L) = 0 ∧ (enc (cO t b L)).2 = dZ (cO t b L) ∧ (dZ (cO t b L)).length ≤ 262144:=by
 obtain ⟨hn,hb,hl,hs⟩:=tI hv;have s1:=YN hn;have hbs:(⟨b.toArray⟩:ByteArray).size = b.length:=by rw [Lib.size_eq]
 have eh:(([lB,t,⟨b.toArray⟩]:List ByteArray) ≠ [] ∧ ([lB,t,⟨b.toArray⟩]:List ByteArray).length ≤ 120 ∧ ∀ s ∈ ([lB,t,⟨b.toArray⟩]:List ByteArray),s.size ≤ 32768) ∧ (kG [lB,t,⟨b.toArray⟩]).length ≤ 98600:=by
  have hw:lB.size = 8:=rfl;refine ⟨⟨by simp,by show 3 ≤ 120;omega,fun s hs=>?_⟩,?_⟩
  ·simp at hs;rcases hs with rfl | rfl | rfl <;> omega
  ·refine Nat.le_trans (CG _) ?_;have e:(([lB,t,⟨b.toArray⟩]:List ByteArray).map ByteArray.size).sum = lB.size + (t.size + ((⟨b.toArray⟩:ByteArray).size + 0)):=rfl;have e2:([lB,t,⟨b.toArray⟩]:List ByteArray).length = 3:=rfl;rw [e,e2];omega
 have eg:∀ q ∈ L.map dH,(q ≠ [] ∧ q.length ≤ 120 ∧ ∀ s ∈ q,s.size ≤ 32768) ∧ (kG q).length ≤ 8000:=fun q hq=>by
  obtain ⟨p,hp,rfl⟩:=List.mem_map.1 hq;obtain ⟨h1,h2,h3,h4⟩:=BP (hs p hp);have hlen:(dH p).length ≤ 78:=by unfold dH eP;simp only [List.length_append,List.length_map,List.length_cons,List.length_nil];omega
  have hz:∀ y ∈ dH p,y.size ≤ 32:=fun y hy=>by
   unfold dH eP at hy;simp only [List.mem_append,List.mem_cons,List.not_mem_nil,or_false,List.mem_map] at hy;have e0:kF.size = 9:=rfl;have e1:=RT h1.1 (n:=p.h) (by omega);have e2:=AJ (hL p hp).1;have e3:=RT h2.1 (n:=p.a) (by omega);rcases hy with (rfl | rfl | rfl) | (rfl | ⟨x,hx,rfl⟩) | ⟨x,hx,rfl⟩
   ·omega
   ·omega
   ·omega
   ·omega
   ·rw [AJ ((hL p hp).2.1 x hx)];omega
   ·rw [AJ ((hL p hp).2.2 x hx)];omega
  refine ⟨⟨by unfold dH;simp,by omega,fun s hs=>by have:=hz s hs;omega⟩,?_⟩;refine Nat.le_trans (CG _) ?_;have h5:=RK 32 (dH p) hz;have h6:32 * (dH p).length ≤ 32 * 78:=Nat.mul_le_mul (Nat.le_refl _) hlen;omega
 have lg:(L.map dH).length ≤ 8:=by rw [List.length_map];exact hl
 have hlen:(cO t b L).length ≤ 1000:=by unfold cO;rw [List.length_append,List.length_singleton];omega
 have hall:∀ q ∈ cO t b L,bE q = 0:=fun q hq=>by
  unfold cO at hq;rcases List.mem_append.1 hq with h | h
  ·rw [List.mem_singleton.1 h];exact mA eh.1.1 eh.1.2.1 eh.1.2.2
  ·exact mA (eg q h).1.1 (eg q h).1.2.1 (eg q h).1.2.2
 have hchk:chk (cO t b L) = 0:=by
  unfold chk;rw [if_neg (by omega)];exact lV hall
 have hsz:(dZ (cO t b L)).length ≤ 262144:=by
  have happ:dZ (cO t b L) = dZ [[lB,t,⟨b.toArray⟩]] ++ dZ (L.map dH):=by unfold dZ cO;rw [List.flatMap_append]
  rw [happ,List.length_append];have b1:=AO [[lB,t,⟨b.toArray⟩]] 98600 (fun q hq=>by rw [List.mem_singleton.1 hq];exact eh.2);have b2:=AO (L.map dH) 8000 (fun q hq=>(eg q hq).2);have c2:(L.map dH).length * 8000 ≤ 8 * 8000:=Nat.mul_le_mul lg (Nat.le_refl _);simp only [List.length_singleton] at b1;omega
 unfold enc;rw [if_pos hchk,if_neg (by omega)];exact ⟨rfl,hchk,rfl,hsz⟩
theorem LL {t:ByteArray} {b:List UInt8} {L:List Pg} (hv:eU t b L = true) (hL:∀ p ∈ L,H16 p.r ∧ (∀ x ∈ p.l,H16 x) ∧ ∀ x ∈ p.q,H16 x):(MV t b L).1 = 0 ∧ LM (yR ⟨(MV t b L).2.toArray⟩) = ⟨0,t,b,L⟩:=by
 obtain ⟨h1,h2,h3,h4⟩:=EX hv hL;rw [CQ hv];refine ⟨h1,?_⟩;rw [h3];have hd:=tU h2;have hsz:(⟨(dZ (cO t b L)).toArray⟩:ByteArray).size = (dZ (cO t b L)).length:=by rw [Lib.size_eq]
 have hc:yR ⟨(dZ (cO t b L)).toArray⟩ = (0,cO t b L):=by
  unfold yR;rw [if_neg (by omega),hd];simp only;rw [if_pos h2]
 rw [hc];obtain ⟨g1,g2⟩:=EI hv hL;unfold LM;rw [if_neg (by simp),if_pos g1,g2,if_pos hv]
end Go.Proofs.YtaeobegaodhpcaaGreatDoor
