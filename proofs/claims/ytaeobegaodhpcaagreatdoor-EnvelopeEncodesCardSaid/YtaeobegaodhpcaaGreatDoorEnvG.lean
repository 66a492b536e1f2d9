/-
  Envelopes: the walks of slices.Clone at bytes and at halves, and of clone (condition: at most 1000 signatures, each of at most 1000 halves).
-/
import Derived.Test.YtaeobegaodhpcaaGreatDoorZip
import Derived.Test.YtaeobegaodhpcaaGreatDoorQ19
set_option maxRecDepth 100000
set_option maxHeartbeats 8000000
namespace Go.Proofs.YtaeobegaodhpcaaGreatDoor
open Go.RowKit Go.Proofs.YtaeobegaodhpcaaGreatDoor.One
theorem RL {w:World} {B:Nat} {sp:Option Addr} {n cap:Nat} {l:List UInt8} (h:BSrc w B sp n cap l):Src w B sp n cap (ub l) :=
 ⟨by rw[eU];exact h.len,JI _,fun hn=>by
  obtain⟨bb,off,e,hlt,hc,hcell⟩:=h.cells hn;refine⟨bb,off,e,hlt,hc,fun j hj=>?_⟩;have hjl:j<l.length:=by rw[h.len];exact hj
  rw[hcell j hjl];simp[ub,List.getD_eq_getElem?_getD,List.getElem?_eq_getElem hjl]⟩
def OwnBy (w:World) (base:Nat) (v:Value) (l:List UInt8):Prop:=w.ownsRow base 5 1 v l.length (Lib.byteCells l)
theorem OwnBy.below {w w':World} {base:Nat} {v:Value} {l:List UInt8} (h:OwnBy w base v l) (hb:Below w.heap.size w w'):OwnBy w' base v l:=eB h hb
theorem OwnBy.setRow {w:World} {base:Nat} {v:Value} {l:List UInt8} (h:OwnBy w base v l) {g:Nat} {cs:Array Value} {t:TypeId} {fr:Nat × Nat} (hg:w.heap[g]? = some (.cells cs t fr)) (ht:t≠5) (cs':Array Value):OwnBy (w.setRow g cs') base v l :=
 World.ownsRow.kept h (bT w g cs') (cN h hg ht)
theorem OwnBy.exc {w w':World} {base:Nat} {v:Value} {l:List UInt8} (h:OwnBy w base v l) {g:Nat} {cs:Array Value} {t:TypeId} {fr:Nat × Nat} (hg:w.heap[g]? = some (.cells cs t fr)) (ht:t≠5) (hw:w.grownBy w' (some g)):OwnBy w' base v l :=
 World.ownsRow.kept h hw (cN h hg ht)
theorem OwnBy.bsrc {w:World} {base:Nat} {sp:Option Addr} {n cap:Nat} {l:List UInt8} (h:OwnBy w base (.slice sp n cap) l) (hn:l.length=n):BSrc w w.heap.size sp n cap l∧(sp=none→cap=0):=by
 subst hn;obtain⟨_,⟨e,e0⟩ | ⟨g,c,cur,e,hg,h1,h2,h3,h4,h5⟩⟩:=h
 ·injection e with e1 e2 e3
  exact⟨⟨rfl,fun h0=>by omega⟩,fun _=>e3⟩
 ·injection e with e1 e2 e3
  subst e3;refine⟨⟨rfl,fun h0=>⟨g,0,e1,(Array.getElem?_eq_some_iff.1 h1).1,h2,fun j hj=>?_⟩⟩,fun h=>by rw[e1] at h;cases h⟩;rw[Nat.zero_add,cell_of_row w g j _ _ _ h1];have h6:(Lib.byteCells l)[j]? = some (.int .u8 (l[j].toNat:Int)):=by unfold Lib.byteCells;rw[List.getElem?_map,List.getElem?_eq_getElem hj];rfl
  rw[←h5,List.getElem?_take,if_pos zo] at h6;simpa using h6
theorem QV (w:World):(binOp .eql 22 (.slice none 0 0) (.slice none 0 0)).run Tryz.prog w=.ok (.bool true) w:=by kernel_rfl
theorem MP (ad:Addr) (n c:Nat) (w:World):(binOp .eql 22 (.slice (some ad) n c) (.slice none 0 0)).run Tryz.prog w=.ok (.bool false) w:=by kernel_rfl
theorem QU (w:World):(binOp .eql 46 (.slice none 0 0) (.slice none 0 0)).run Tryz.prog w=.ok (.bool true) w:=by kernel_rfl
theorem MO (ad:Addr) (n c:Nat) (w:World):(binOp .eql 46 (.slice (some ad) n c) (.slice none 0 0)).run Tryz.prog w=.ok (.bool false) w:=by kernel_rfl
theorem GY (sp:Option Addr) (n cap:Nat) (l:List UInt8) (w:World) (hl:BSrc w w.heap.size sp n cap l) (hnil:sp=none→cap=0) (hn:n≤100000000) :
 Calls Tryz.prog 98 #[.slice sp n cap] w fun e w'=>∃ sp' cap',e=.returned (.slice sp' n cap')∧Hid (OwnBy w' w.heap.size (.slice sp' n cap') l)∧Below w.heap.size w w':=by
 have HS:=zh (RL hl);have HLN:=zh hl.len;have HUL:Hid ((ub l).length=n):=by show _=_;rw[eU];exact hl.len
 have hz:sp=none→n=0:=fun h=>by
  by_cases h0:0<n
  ·obtain⟨_,_,e,_⟩:=hl.cells h0;rw[h] at e;cases e
  ·omega
 clear hl
 cases sp with
 | none =>
   obtain rfl:=hnil rfl;obtain rfl:=hz rfl;have HLE:Hid (l=[]):=List.eq_nil_of_length_eq_zero HLN.out;have hq:=QV
   go_enter Tryz.func98,Tryz.ntmps98
   go_wp2_with fail;go_ret;exact⟨none,0,rfl,by rw[HLE.out];exact World.ownsRow_nil _ _ _ _,Below.refl _ _⟩
 | some ad =>
   have HRB:=zh (fun w:World=>(show (Instr.buildSlice 22 0 #[]).run Tryz.prog w=.ok (.slice (some ⟨w.heap.size,0,none⟩) 0 0) (w.alloc (.cells #[] 5)) by kernel_rfl));clear hnil hz;have hq:=MP
   go_enter Tryz.func98,Tryz.ntmps98
   go_wp2_with (first
    | (refine dZ rfl 22 5 rfl HRB.out ?_;intro v1 w1 hv1 hw1;have hb1:Below w.heap.size w w1:=(by rw[hw1.out];exact aA _ _);have HO1:Hid (w1.ownsRow w.heap.size 5 1 v1 0 []):=(by rw[hv1.out,hw1.out];exact World.ownsRow_made w #[] 0 zl (by unfold maxLen;omega) rfl);have hs01:=hb1.size;have HSR:=zh (HS.out.below hb1 zl))
    | (at_builtin;refine eA rfl (.tmp 5) (.tmp 6) 22 5 rfl Tryz.underlying22 Tryz.info5a w.heap.size _ [] rfl HO1.out _ _ _ (ub l) (by rw[HUL.out];rfl) (by rw[HUL.out];exact HSR.out) (fun h=>by cases h) (by rw[HUL.out];simp;omega) hs01 ?_;intro v2 w2 hown2 hg2 hx2;clear hx2;have hb2:=hb1.grown hg2 hs01 (dQ HO1.out)))
   have HO2:Hid (OwnBy w2 w.heap.size v2 l):=by
    have h:=hown2.out;show World.ownsRow _ _ _ _ _ _ _;rw[List.nil_append,eU,uX] at h;exact h
   have HB2:=zh hb2;obtain⟨sp',cap',rfl⟩:=aM HO2.out;clear hown2 hg2 hb2 hb1 HO1 HSR HRB hs01 hv1 hw1;go_wp2_with fail;go_ret;exact⟨sp',cap',by rw[HLN.out];rfl,by rw[←HLN.out];exact HO2,HB2.out⟩
theorem iL {w:World} {ops:Array Oper} {rest:List Oper} {o:Oper} {a:Act} {Q:Exit→Act→World→Prop} (hgd:o.guard=none) (s x:Operand)
 (ho:o.op=.call { callee:=.builtin .append,args:=#[s,x],argTypes:=#[46,46] }) (base:Nat) (v:Value) (l:List (List Int)) (n:Nat) (hn:n=l.length) (hs:a.eval s=v) (hown:OwnHv w base v l)
 (ad:Addr) (m c B:Nat) (l2:List (List Int)) (hx:a.eval x=.slice (some ad) m c) (hsrc:HvsIn w B (some ad) m c l2) (hlen:n+m≤1000000) (hbase:base≤w.heap.size)
 (h:∀ sp cap w',Hid (OwnHv w' base (.slice sp (n+m) cap) (l++l2))→Hid (Below base w w')→Hid (w.grownBy w' v.ownBlock)→wpList Tryz.prog ops Q rest (a.put o.dst (.slice sp (n+m) cap)) w'):wpList Tryz.prog ops Q (o :: rest) a w:=by
 subst hn;obtain⟨i0,hi0,hz0,hz1,hz2⟩:=bF pQ;have hl2:=hsrc.len;have hok:∀ y ∈ l2,(y.map (Value.int .u8)).length=16:=fun y hy=>by rw[List.length_map];exact (hsrc.ok y hy).1
 refine wpList_append_own w hgd s x _ ho base _ i0 _ 16 16 Tryz.underlying46 hi0 hz0 hz1 hz2 rfl (by decide) v l.length _ hs hown.1 ad m c (gO l2) hx ?_ ?_ ?_ (by unfold maxLen;omega) zo hbase ?_
 ·rw[←hl2];unfold gO;clear h hsrc hx hl2
  induction l2 with
  | nil=>simp
  | cons y t ih=>rw[List.flatMap_cons,List.length_append,ih (fun z hz=>hok z (by simp[hz])),hok y (by simp),List.length_cons];omega
 ·intro j u hj;have hjl:j<l2.length*16:=by
   have hlt:=(List.getElem?_eq_some_iff.1 hj).1;have:(gO l2).length=l2.length*16:=by
    unfold gO;clear h hsrc hx hl2 hj hlt
    induction l2 with
    | nil=>simp
    | cons y t ih=>rw[List.flatMap_cons,List.length_append,ih (fun z hz=>hok z (by simp[hz])),hok y (by simp),List.length_cons];omega
   omega
  obtain⟨b,off,e,_,_,hr⟩:=hsrc.cells zo;injection e with e;subst e
  have hq:j / 16<l2.length:=by omega
  have h1:=hr (j / 16) zo;rw[List.getD_eq_getElem?_getD,List.getElem?_eq_getElem hq] at h1;have h2:(l2[j / 16].map (Value.int .u8))[j % 16]? = some u:=by
   have hjj:j % 16<(l2[j / 16].map (Value.int .u8)).length:=by rw[hok _ (List.getElem_mem hq)];omega
   have:=nO (fun d:List Int=>d.map (Value.int .u8)) 16 l2 hok (j / 16) _ (List.getElem?_eq_getElem hq) (j % 16) _ (List.getElem?_eq_getElem hjj);rw[show j / 16*16+j % 16=j by omega] at this;rw[List.getElem?_eq_getElem hjj,←this];exact hj
  rw[Addr.add_mid,show off+j=off+j / 16*16+j % 16 by omega];exact h1 _ u h2
 ·intro u hu;obtain⟨y,_,hu⟩:=List.mem_flatMap.1 hu;obtain⟨i,_,rfl⟩:=List.mem_map.1 hu;rfl
 ·intro v' w' h1 h2 _;obtain⟨sp,cap,rfl⟩:=aM h1;refine h sp cap w' ⟨by rw[show gO (l++l2)=gO l++gO l2 by simp[gO],List.length_append,hl2];exact h1,fun z hz=>?_⟩ ((Below.refl base w).grown h2 hbase (bO hown.1)) h2;rcases List.mem_append.1 hz with hz | hz
  ·exact hown.2 z hz
  ·exact hsrc.ok z hz
theorem uI (sp:Option Addr) (n cap:Nat) (l:List (List Int)) (w:World) (hl:HvsIn w w.heap.size sp n cap l) (hnil:sp=none→cap=0) (hn:n≤1000) :
 Calls Tryz.prog 99 #[.slice sp n cap] w fun e w'=>∃ sp' cap',e=.returned (.slice sp' n cap')∧Hid (OwnHv w' w.heap.size (.slice sp' n cap') l)∧Below w.heap.size w w':=by
 have HS:=zh hl;have HLN:=zh hl.len;have hz:sp=none→n=0:=fun h=>by
  by_cases h0:0<n
  ·obtain⟨_,_,e,_⟩:=hl.cells h0;rw[h] at e;cases e
  ·omega
 clear hl
 cases sp with
 | none =>
   obtain rfl:=hnil rfl;obtain rfl:=hz rfl;have HLE:Hid (l=[]):=List.eq_nil_of_length_eq_zero HLN.out;have hq:=QU
   go_enter Tryz.func99,Tryz.ntmps99
   go_wp2_with fail;go_ret;exact⟨none,0,rfl,by rw[HLE.out];exact OwnHv.nil _ _,Below.refl _ _⟩
 | some ad =>
   have HRB:=zh (fun w:World=>(show (Instr.buildSlice 46 0 #[]).run Tryz.prog w=.ok (.slice (some ⟨w.heap.size,0,none⟩) 0 0) (w.alloc (.cells #[] 42)) by kernel_rfl));clear hnil hz;have hq:=MO
   go_enter Tryz.func99,Tryz.ntmps99
   go_wp2_with (first
    | (refine dZ rfl 46 42 rfl HRB.out ?_;intro v1 w1 hv1 hw1;have hb1:Below w.heap.size w w1:=(by rw[hw1.out];exact aA _ _);have HO1:Hid (OwnHv w1 w.heap.size v1 []):=(by rw[hv1.out,hw1.out];exact⟨World.ownsRow_made w #[] 0 zl (by unfold maxLen;omega) rfl,by simp⟩);have hs01:=hb1.size;have HSR:=zh (HS.out.below hb1 zl))
    | (at_builtin;refine iL rfl (.tmp 5) (.tmp 6) rfl w.heap.size _ [] 0 rfl rfl HO1.out _ n cap _ l rfl HSR.out zo hs01 ?_;intro sp2 cap2 w2 HO2 HB2 HG2))
   have HB1:=zh hb1;clear hb1 HO1 HSR HRB hs01 hv1 hw1 HG2;go_wp2_with fail;go_ret;exact⟨sp2,cap2,rfl,by have h:=HO2.out;rw[Nat.zero_add,List.nil_append] at h;exact h,HB1.out.trans HB2.out⟩
structure SgT (w:World) (base:Nat) (x:Sg):Prop where
 r:OkG x
 c:OwnHv w base (.slice x.sp x.n x.c) x.l
 p:OwnHv w base (.slice x.sq x.m x.d) x.q
 cl:x.l.length=x.n
 pl:x.q.length=x.m
theorem SX {w:World} {base n cap:Nat} {sp:Option Addr} {l:List (List Int)} (h:OwnHv w base (.slice sp n cap) l):sp=none→cap=0:=by
 rintro rfl;obtain⟨_,⟨e,_⟩ | ⟨g,c,u,e,_⟩⟩:=h.1
 ·cases e;rfl
 ·cases e
theorem SgT.dat {w:World} {base:Nat} {x:Sg} (h:SgT w base x):SgD w w.heap.size x:=⟨h.c.hvs h.cl,h.p.hvs h.pl,SX h.c,SX h.p⟩
theorem SgT.below {w w':World} {base:Nat} {x:Sg} (h:SgT w base x) (hb:Below w.heap.size w w'):SgT w' base x:=⟨h.r,h.c.below hb,h.p.below hb,h.cl,h.pl⟩
theorem SgT.base {w:World} {b b':Nat} {x:Sg} (h:SgT w b x) (hb:b'≤b):SgT w b' x:=⟨h.r,h.c.base hb,h.p.base hb,h.cl,h.pl⟩
theorem SgT.setCell {w:World} {base:Nat} {x:Sg} (h:SgT w base x) {g:Nat} {cs:Array Value} {t:TypeId} {fr:Nat × Nat} (hg:w.heap[g]? = some (.cells cs t fr)) (ht:t≠42) (o:Nat) (u:Value):SgT (w.setCell ⟨g,o,none⟩ u) base x :=
 ⟨h.r,h.c.setCell hg ht o u,h.p.setCell hg ht o u,h.cl,h.pl⟩
theorem SgT.setRow {w:World} {base:Nat} {x:Sg} (h:SgT w base x) {g:Nat} {cs:Array Value} {t:TypeId} {fr:Nat × Nat} (hg:w.heap[g]? = some (.cells cs t fr)) (ht:t≠42) (u:Array Value):SgT (w.setRow g u) base x :=
 ⟨h.r,h.c.setRow hg ht u,h.p.setRow hg ht u,h.cl,h.pl⟩
theorem OwnG.neH:42≠50:=by decide
theorem SgT.grown {w w':World} {base b2:Nat} {x:Sg} {v:Value} {l:List Sg} (h:SgT w base x) (ho:OwnG w b2 v l) (hg:w.grownBy w' v.ownBlock):SgT w' base x :=
 ⟨h.r,⟨World.ownsRow.kept h.c.1 hg (BJ h.c.1 ho.1 OwnG.neH),h.c.2⟩,⟨World.ownsRow.kept h.p.1 hg (BJ h.p.1 ho.1 OwnG.neH),h.p.2⟩,h.cl,h.pl⟩
theorem OwnG.setOther {w:World} {base:Nat} {v:Value} {l:List Sg} (h:OwnG w base v l) {g:Nat} (hg:g<base) (o:Nat) (u:Value):OwnG (w.setCell ⟨g,o,none⟩ u) base v l :=
 ⟨World.ownsRow.kept h.1 (aY w g o u) (by
  cases hv:v.ownBlock with
  | none=>exact .inl rfl
  | some k=>exact .inr fun e=>by injection e with e;have:=bO h.1 k hv;omega),h.2⟩
theorem VY {w:World} {b:Nat} {x:Sg} (h:GB w b x) (hx:OkG x) (sp:Option Addr) (c:Nat):GB (w.setCell ⟨b,18,none⟩ (.slice sp x.n c)) b { x with sp:=sp,c:=c }:=by
 have h1:=heap_setCell_same w b 18 _ _ (.slice sp x.n c) h;have e:(aX x).toArray.setIfInBounds 18 (.slice sp x.n c)=(aX { x with sp:=sp,c:=c }).toArray:=by
  have hp:=jC hx;rw[List.setIfInBounds_toArray];congr 1;unfold aX;rw[List.set_append_right _ _ zo,hp];rfl
 rw[e] at h1;exact h1
theorem VW {w:World} {b:Nat} {x:Sg} (h:GB w b x) (hx:OkG x) (sq:Option Addr) (d:Nat):GB (w.setCell ⟨b,19,none⟩ (.slice sq x.m d)) b { x with sq:=sq,d:=d }:=by
 have h1:=heap_setCell_same w b 19 _ _ (.slice sq x.m d) h;have e:(aX x).toArray.setIfInBounds 19 (.slice sq x.m d)=(aX { x with sq:=sq,d:=d }).toArray:=by
  have hp:=jC hx;rw[List.setIfInBounds_toArray];congr 1;unfold aX;rw[List.set_append_right _ _ zo,hp];rfl
 rw[e] at h1;exact h1
theorem gb_c {w:World} {b:Nat} {x:Sg} (h:GB w b x) (hx:OkG x):w.cell? ⟨b,18,none⟩=some (.slice x.sp x.n x.c):=h.s hx 1 _ rfl
theorem gb_p {w:World} {b:Nat} {x:Sg} (h:GB w b x) (hx:OkG x):w.cell? ⟨b,19,none⟩=some (.slice x.sq x.m x.d):=h.s hx 2 _ rfl
theorem NG (t:ByteArray) (sp:Option Addr) (n c:Nat) (w:World):(Instr.build 25 #[(0,.string t),(1,.slice sp n c)]).run Tryz.prog w=.ok (.agg (enA t (.slice sp n c) aH)) w:=by kernel_rfl
theorem eT {P:Program} {ops:Array Oper} {S:World→Prop} {op:Oper} {a:Act} (hw:Region.wanted op (yielded ops a.tmps)=true) (t:TypeId) (parts:List (Nat × Operand)) (ho:op.op=.build t parts.toArray)
 (vs:List (Nat × Value)) (hv:(parts.map fun (i,x)=>(i,a.eval x))=vs) (v:Value) (hrun:∀ w,S w→(Instr.build t vs.toArray).run P w=.ok v w):YieldsIf P ops S op v a:=by
 refine Or.inl ⟨hw,fun w hSw=>?_⟩;unfold execOp;simp only[ho,Sem.run_bind,List.map_toArray,hv,hrun w hSw,Result.andThen_ok];rfl
theorem OwnBy.base {w:World} {b b':Nat} {v:Value} {l:List UInt8} (h:OwnBy w b v l) (hb:b'≤b):OwnBy w b' v l:=by
 obtain⟨hl,h1 | ⟨g,cap,cur,e,hbg,rest⟩⟩:=h
 ·exact⟨hl,.inl h1⟩
 ·exact⟨hl,.inr ⟨g,cap,cur,e,Nat.le_trans hb hbg,rest⟩⟩
theorem uC (t:ByteArray) (p s s':Value):(enA t p s).setIfInBounds 2 s'=enA t p s':=by simp[enA,enL]
theorem VJ:50≠42:=by decide
theorem oQ:25≠42:=by decide
theorem NB (t:ByteArray) (sp:Option Addr) (n cap:Nat) (b:List UInt8) (sq:Option Addr) (m cq:Nat) (l:List Sg) (w:World) (hp:BSrc w w.heap.size sp n cap b) (hpn:sp=none→cap=0) (hn:n≤100000000) (hl:SgsIn w w.heap.size sq m cq l) (hm:m≤1000) (hlt:∀ x ∈ l,x.n≤1000∧x.m≤1000) :
 Calls Tryz.prog 61 #[.agg (enA t (.slice sp n cap) (.slice sq m cq))] w fun e w'=>∃ sp' cap' sq' cq' l',e=.returned (.agg (enA t (.slice sp' n cap') (.slice sq' m cq')))∧Hid (OwnBy w' w.heap.size (.slice sp' n cap') b)∧Hid (OwnG w' w.heap.size (.slice sq' m cq') l')∧Hid (l'.map pg=l.map pg)∧Hid (∀ x ∈ l',SgT w' w.heap.size x)∧Below w.heap.size w w':=by
 have HP:=zh hp;have HPN:=zh hpn;have HL:=zh hl;have IH:=zh hlt;have HE:=zh (heap_alloc_new w (.cells (enA t (.slice sp n cap) (.slice sq m cq)) 25));have HE2:=zh (heap_alloc_new (w.alloc (.cells (enA t (.slice sp n cap) (.slice sq m cq)) 25)) (.cells zEn 25));clear hp hpn hl hlt
 go_enter Tryz.func61,Tryz.ntmps61
 go_upto_region 1 with fail
 generalize hwz:World.alloc w _=wz;generalize hw0:World.alloc wz _=w0;have HEz:Hid (Ah wz w.heap.size (enA t (.slice sp n cap) (.slice sq m cq)) 25):=by rw[←hwz];exact HE.out
 have HBz:Hid (Bw w wz):=by rw[←hwz];exact (Below.refl _ _).alloc zl _
 have HSz:Hid (wz.heap.size=w.heap.size+1):=by show _=_;rw[←hwz];simp
 have HR0:Hid (w0.heap[w.heap.size+1]? = some (.cells zEn 25 (0,0))):=by have h:=heap_alloc_new wz (.cells zEn 25);rw[HSz.out] at h;rw[←hw0];exact h
 have CR:Hid (Bw wz w0):=by rw[←hw0];exact (Below.refl _ _).alloc zl _
 have HS0:Hid (w0.heap.size=w.heap.size+2):=by show _=_;rw[←hw0,World.size_alloc,HSz.out]
 have HE0:Hid (Ah w0 w.heap.size (enA t (.slice sp n cap) (.slice sq m cq)) 25):=(CR.out.block _ (by have:=HSz.out;omega)).trans HEz.out;have HB0:Hid (Bw w w0):=HBz.out.trans (CR.out.mono (by have:=HSz.out;omega));clear hwz hw0 HE HE2 HEz HBz CR;obtain⟨B,hBe⟩:∃ B,B=w0.heap.size:=⟨_,rfl⟩;have qK:Hid (Blks B w0 w0 []):=Blks.start (Below.refl _ _) (Nat.le_of_eq hBe);have HLT:Hid (w.heap.size<B):=by show _<_;have:=HS0.out;omega
 have XN:Hid (w.heap.size+1<B):=by show _<_;have:=HS0.out;omega
 have HCB:Hid (∀ w',Below B w0 w'→Calls Tryz.prog 98 #[.slice sp n cap] w' fun e w''=>∃ sp' cap',e=.returned (.slice sp' n cap')∧Hid (OwnBy w'' w'.heap.size (.slice sp' n cap') b)∧Below w'.heap.size w' w''):=fun w' hb=>GY sp n cap b w' ((HP.out.below (HB0.out.trans (hb.mono (Nat.le_of_lt HLT.out))) zl).more (by have:=HB0.out.size;have:=hb.size;omega)) HPN.out hn;clear hBe
 go_cut [3] (fun s3 wx=>∃ (ga:Nat) (sp2:Option Addr) (cap2:Nat),s3=.pointer (some ⟨ga,0,none⟩)∧Hid (wx.heap[ga]? = some (.cells (enA t (.slice sp2 n cap2) aH) 25 (0,0))∧B≤ga∧OwnBy wx B (.slice sp2 n cap2) b∧Below B w0 wx))
 case first =>
  as_aux_lemma =>
   refine wp_region_held_drew (S:=fun w'=>Below B w0 w') (by kernel_rfl) qK.out.b.drew (fun hHeld=>?_);refine zv 0 rfl ?_;refine zx 1 rfl (v:=?_) ?_ ?_;rotate_left
   ·intro w' hSw;have c0:=IM ((hSw.block _ HLT.out).trans HE0.out);go_simp;try with_reducible rfl
   refine zv 2 rfl ?_;refine zx 3 rfl (v:=?_) ?_ ?_;rotate_left
   ·intro w' hSw;have c0:=qU ((hSw.block _ HLT.out).trans HE0.out);go_simp;try with_reducible rfl
   refine zs 4 6 rfl (fun K hK=>?_) rfl (fun K hK=>?_);go_simp
   with_reducible refine (HCB.out _ (qK.out.drew).b).mono ?_
   rintro e v1 ⟨sp2,cap2,rfl,ho,hb⟩;have cA:=zh (qK.out.call ((Below.refl _ _).drew.trans hb));have CL:=zh (ho.out.base (qK.out.k));clear hb;go_wp2_with fail;refine hK.out _ _ cA.out.b fun _=>?_;clear hK K;refine zk 5 rfl (v:=_) (eT (by rfl) 25 [(0,.tmp 7),(1,.tmp 10)] rfl [(0,.string t),(1,.slice sp2 n cap2)] rfl _ (fun w' _=>NG t sp2 n cap2 w')) ?rest5n5
   try simp only[Act.put,zu]
   refine zr 6 rfl (fun K hK=>?_);obtain⟨ga,v2,hg,hw,bJ,hU⟩:=cA.out.allocd (.cells zEn 25 (0,0));go_simp
   try rw[hg]
   generalize hq:World.alloc v1 _=q;obtain rfl:v2=q:=hw.symm.trans hq;clear hg hw hq;have sJ:=zh (CL.out.below hU.out);refine hK.out _ _ bJ.out.b fun _=>?_;clear hK K;refine zr 7 rfl (fun K hK=>?_);rw[if_pos (by rfl)];refine wp_store_row 25 _ _ rfl ga (enA t (.slice sp2 n cap2) aH) rfl rfl 25 _ (bJ.out.at 0 rfl) (aE _ _ _) rfl (bI _ _ _ _ _ _ _) ?_;generalize hw:World.setRow v2 _ _=v3;have dN:=zh (bJ.out.set 0 rfl (enA t (.slice sp2 n cap2) aH));rw[hw] at dN;have pD:=zh (sJ.out.setRow (bJ.out.at 0 rfl) (by decide) (enA t (.slice sp2 n cap2) aH));rw[hw] at pD;clear hw;refine hK.out _ _ dN.out.b fun _=>?_;clear hK K;refine zd ?_ _;go_wp2_with fail;go_meet;exact⟨ga,sp2,cap2,rfl,dN.out.at 0 rfl,(dN.out.lt 0 rfl).1,pD.out,dN.out.b⟩;obtain⟨ga,v1,hg,hw,cA,qB⟩:=qK.out.allocdD (.cells zEn 25 (0,0));go_simp
   try rw[hg]
   generalize hq:World.drew (World.alloc w0 _)=q;obtain rfl:v1=q:=hw.symm.trans hq;clear hg hw hq;refine hK.out _ _ cA.out.b fun _=>?_;clear hK K;refine zr 4 rfl (fun K hK=>?_);go_simp
   with_reducible refine (HCB.out _ (cA.out).b).mono ?_
   rintro e v2 ⟨sp2,cap2,rfl,ho,hb⟩;have bJ:=zh (cA.out.call hb);have sJ:=zh (ho.out.base (cA.out.k));clear hb;go_wp2_with fail;refine hK.out _ _ bJ.out.b fun _=>?_;clear hK K;refine zk 5 rfl (v:=_) (eT (by rfl) 25 [(0,.tmp 7),(1,.tmp 10)] rfl [(0,.string t),(1,.slice sp2 n cap2)] rfl _ (fun w' _=>NG t sp2 n cap2 w')) ?rest5n6
   try simp only[Act.put,zu]
   refine zr 7 rfl (fun K hK=>?_);rw[if_pos (by rfl)];refine wp_store_row 25 _ _ rfl ga (enA t (.slice sp2 n cap2) aH) rfl rfl 25 _ (bJ.out.at 0 rfl) (aE _ _ _) rfl (bI _ _ _ _ _ _ _) ?_;generalize hw:World.setRow v2 _ _=v3;have dN:=zh (bJ.out.set 0 rfl (enA t (.slice sp2 n cap2) aH));rw[hw] at dN;have pD:=zh (sJ.out.setRow (bJ.out.at 0 rfl) (by decide) (enA t (.slice sp2 n cap2) aH));rw[hw] at pD;clear hw;refine hK.out _ _ dN.out.b fun _=>?_;clear hK K;refine zd ?_ _;go_wp2_with fail;go_meet;exact⟨ga,sp2,cap2,rfl,dN.out.at 0 rfl,(dN.out.lt 0 rfl).1,pD.out,dN.out.b⟩
 case rest =>
 obtain⟨ga,sp2,cap2,rfl,HC1⟩:=hcut;have HG:=zh HC1.out.1;have hga:=HC1.out.2.1;have HPY:=zh HC1.out.2.2.1;have HBC:=zh HC1.out.2.2.2;clear HC1 HCB qK;have HBWC:=zh (HB0.out.trans (HBC.out.mono (Nat.le_of_lt HLT.out)));have HEC:=zh ((HBC.out.block _ HLT.out).trans HE0.out);have HRC:=zh ((HBC.out.block _ XN.out).trans HR0.out);have hgl:ga<wc.heap.size:=(Array.getElem?_eq_some_iff.1 HG.out).1;have hgw:w.heap.size+1<ga:=by have:=XN.out;omega
 clear HE0 HR0;have c2:=iW HEC.out
 go_upto_region 3 with fail
 clear c2;obtain⟨B1,hB1⟩:∃ B1,B1=wc.heap.size:=⟨_,rfl⟩;have FA:Hid (B1≤wc.heap.size∧wc.heap.size≤B1):=⟨by omega,by omega⟩;have hgB:ga<B1:=by omega
 clear hB1
 go_loopw [15] (fun i wr=>∃ (k:Nat) (s:Option Addr) (c:Nat) (l1:List Sg),k≤m∧i=.int .i64 k∧Hid (wr.heap[ga]? = some (.cells (enA t (.slice sp2 n cap2) (.slice s k c)) 25 (0,0)))∧Hid (OwnG wr B1 (.slice s k c) l1)∧Hid (l1.map pg=(l.map pg).take k)∧Hid (∀ x ∈ l1,SgT wr B1 x)∧Hid (wc.grownBy wr (some ga))) (fun i _=>m-(intOf i).toNat)
 case atStart=>exact⟨0,none,0,[],Nat.zero_le _,rfl,HG.out,OwnG.nil _ _,rfl,fun x hx=>(by cases hx),oV _ _⟩
 case round =>
  obtain⟨k,s,c,l1,hk,rfl,HGR,HOW,HLP,HTT,HGW⟩:=hrel;have HSR:Hid (B1≤wr.heap.size):=by show _≤_;have:=HGW.out.size;have:=FA.out;omega
  have HBR:Hid (Bw w wr):=HBWC.out.trans (cV HGW.out zo zo);by_cases hlt:k<m
  ·have hd:decide ((k:Int)<(m:Int))=true:=by simp;omega
   obtain⟨bq,off,rfl,hbB,hcap,hr⟩:=HL.out.cells zo;have hkl:k<l.length:=by rw[HL.out.len];exact hlt
   obtain⟨x,hx⟩:∃ x,l[k]? = some x:=⟨l[k],List.getElem?_eq_getElem hkl⟩;have hxm:x ∈ l:=List.mem_of_getElem? hx;have HR:=zh (aB (hr k x hx) HBR.out hbB);have HOX:=zh (HL.out.ok x hxm);have HI:=zh (gG HOX.out);have HDX:=zh (HL.out.dat x hxm);have HNX:=zh (IH.out x hxm);have HTK:=zh (show (l.map pg).take (k+1)=(l.map pg).take k++[pg x] by rw[List.take_add_one,List.getElem?_map,hx];rfl);have HLK:Hid (k=l1.length):=by
    have h1:=congrArg List.length HLP.out;rw[List.length_map,List.length_take,List.length_map,HL.out.len] at h1;show _=_;omega
   have p1:(0:Int)≤(k:Int):=by omega
   have p2:(k:Int)<(m:Int):=by omega
   have p3:(m:Int)≤(cq:Int):=by omega
   have HZG:=zh (heap_alloc_new wr (.cells zG.toArray 50));clear hr hx hxm hkl hbB
   go_upto_region 5 with (first
    | (refine wpList_load_mid rfl 50 _ rfl bq (off + k * 20) rfl _ _ HR.out Tryz.underlying50 rfl HI.out ?_)
      | (refine wpList_store_row rfl 50 _ _ rfl wr.heap.size _ rfl rfl 50 _ HZG.out (aS HOX.out) (bR HOX.out) (bG x) ?_;rw[aK];generalize hwA:World.alloc wr _=wA;have HGA:Hid (GB wA wr.heap.size x):=(by rw[←hwA];exact GB.new wr x);have HBA:Hid (Below wr.heap.size wr wA):=(by rw[←hwA];exact (Below.refl _ _).alloc zl _);have hsA:wA.heap.size=wr.heap.size+1:=(by rw[←hwA];simp);clear hwA))
   clear HZG;obtain⟨g5,hg5⟩:∃ g5,g5=wr.heap.size:=⟨_,rfl⟩;rw[←hg5];have HGA2:Hid (GB wA g5 x):=by rw[hg5];exact HGA.out
   have HG5:Hid (g5=wr.heap.size):=hg5;clear hg5 HGA;have HBWA:=zh (HBR.out.trans (HBA.out.mono HBR.out.size));have cC:=gb_c HGA2.out HOX.out;have HCH:=zh (uI x.sp x.n x.c x.l wA (HDX.out.up HBWA.out zl).c HDX.out.cn HNX.out.1);go_wp2_with fail;refine HCH.out.mono ?_;rintro e wB ⟨sp5,c5,rfl,HO5,hb⟩;have HBB:=zh hb;clear hb cC;have HGB:Hid (GB wB g5 x):=HGA2.out.below HBB.out (by have:=HG5.out;omega);have cC:=gb_c HGB.out HOX.out;have fC:=frozen_of_row _ _ 18 _ _ HGB.out
   go_upto_region 6 with fail
   have HGC:=zh (VY HGB.out HOX.out sp5 c5);have HOC:=zh (HO5.out.setCell HGB.out VJ 18 (.slice sp5 x.n c5));have aBx:Hid (Below wr.heap.size wr (wB.setCell ⟨g5,18,none⟩ (.slice sp5 x.n c5))):=((HBA.out.trans (HBB.out.mono zo)).setCell (p:=⟨g5,18,none⟩) (by show _≤g5;have:=HG5.out;omega) _);generalize hwC:World.setCell wB _ _=wC at *;have aBt:=zh (HBR.out.trans (aBx.out.mono HBR.out.size));clear hwC cC fC;generalize hx5:({ x with sp:=sp5,c:=c5 }:Sg)=x5 at *;have HX5:Hid (x5.n=x.n∧x5.m=x.m∧x5.sq=x.sq∧x5.d=x.d∧x5.q=x.q∧x5.sp=sp5∧x5.c=c5∧x5.l=x.l∧OkG x5∧pg x5=pg x):=by rw[←hx5];exact⟨rfl,rfl,rfl,rfl,rfl,rfl,rfl,rfl,HOX.out,rfl⟩
   clear hx5;have cP:=gb_p HGC.out HX5.out.2.2.2.2.2.2.2.2.1;rw[HX5.out.2.1,HX5.out.2.2.1,HX5.out.2.2.2.1] at cP;have HCP:=zh (uI x.sq x.m x.d x.q wC (HDX.out.up aBt.out zl).p HDX.out.pn HNX.out.2);go_wp2_with fail;refine HCP.out.mono ?_;rintro e wD ⟨sp6,c6,rfl,HO6,hb⟩;have HBD:=zh hb;clear hb cP;have HGD:Hid (GB wD g5 x5):=HGC.out.below HBD.out ((Array.getElem?_eq_some_iff.1 HGC.out).1);have cP:=gb_p HGD.out HX5.out.2.2.2.2.2.2.2.2.1;have fP:=frozen_of_row _ _ 19 _ _ HGD.out;rw[HX5.out.2.1] at cP
   go_upto_region 7 with fail
   have HGE0:Hid (GB (wD.setCell ⟨g5,19,none⟩ (.slice sp6 x.m c6)) g5 { x5 with sq:=sp6,d:=c6 }):=by
    have h:=VW HGD.out HX5.out.2.2.2.2.2.2.2.2.1 sp6 c6;rw[show (Value.slice sp6 x5.m c6)=.slice sp6 x.m c6 by rw[HX5.out.2.1]] at h;exact h
   have HOE:=zh ((HOC.out.below HBD.out).setCell HGD.out VJ 19 (.slice sp6 x.m c6));have HOP:=zh (HO6.out.setCell HGD.out VJ 19 (.slice sp6 x.m c6));have HBE:Hid (Below wr.heap.size wr (wD.setCell ⟨g5,19,none⟩ (.slice sp6 x.m c6))):=((aBx.out.trans (HBD.out.mono aBx.out.size)).setCell (p:=⟨g5,19,none⟩) (by show _≤g5;have:=HG5.out;omega) _);have hkB:B1≤wB.heap.size:=by have:=HSR.out;have:=HBA.out.size;have:=HBB.out.size;omega
   have hkD:B1≤wC.heap.size:=by have:=HSR.out;have:=aBx.out.size;omega
   have hkA:B1≤wA.heap.size:=by have:=HSR.out;have:=HBA.out.size;omega
   generalize hwE:World.setCell wD _ _=wE at *;clear hwE cP fP;generalize hx6:({ x5 with sq:=sp6,d:=c6 }:Sg)=x6 at *;have HX6:Hid (OkG x6∧pg x6=pg x):=by rw[←hx6];exact⟨HX5.out.2.2.2.2.2.2.2.2.1,HX5.out.2.2.2.2.2.2.2.2.2⟩
   have HT6:Hid (SgT wE B1 x6):=by
    rw[←hx6];refine⟨HX5.out.2.2.2.2.2.2.2.2.1,?_,?_,?_,?_⟩
    ·show OwnHv wE B1 (.slice x5.sp x5.n x5.c) x5.l;rw[HX5.out.2.2.2.2.2.1,HX5.out.1,HX5.out.2.2.2.2.2.2.1,HX5.out.2.2.2.2.2.2.2.1];exact HOE.out.base hkA
    ·show OwnHv wE B1 (.slice sp6 x5.m c6) x5.q;rw[HX5.out.2.1,HX5.out.2.2.2.2.1];exact HOP.out.base hkD
    ·show x5.l.length=x5.n;rw[HX5.out.1,HX5.out.2.2.2.2.2.2.2.1];exact HDX.out.c.len
    ·show x5.q.length=x5.m;rw[HX5.out.2.1,HX5.out.2.2.2.2.1];exact HDX.out.p.len
   clear hx6;have HGE:Hid (Ah wE ga (enA t (.slice sp2 n cap2) (.slice s k c)) 25):=(HBE.out.block _ (by have:=HSR.out;omega)).trans HGR.out;have HOWE:=zh (HOW.out.below HBE.out);have HTTE:Hid (∀ y ∈ l1,SgT wE B1 y):=fun y hy=>(HTT.out y hy).below HBE.out;have hkE:B1≤wE.heap.size:=by have:=HSR.out;have:=HBE.out.size;omega
   have cS:=iW HGE.out;clear HGB HGC HGD HOC HO5 HO6 HOP HOE aBx HBD HBB HBA HBWA aBt HGA2 HCH HCP HX5
   go_upto_region 8 with (first
    | (refine wpList_load_row rfl 50 _ rfl g5 rfl 50 _ (0,0) _ HGE0.out Tryz.underlying50 rfl (aS HX6.out.1) ?_)
    | (refine aT rfl 23 1 [(0,.tmp 33)] rfl [(0,.agg (aX x6).toArray)] rfl _ _ (rH _ x6 HX6.out.1) ?_;generalize hwF:World.alloc wE _=wF;have HGF:Hid (GB wF wE.heap.size x6):=(by rw[←hwF];exact GB.new _ _);have HBF:Hid (Bw wE wF):=(by rw[←hwF];exact aA _ _);have hkF:B1≤wF.heap.size:=(by have:=HBF.out.size;omega);clear hwF)
    | (at_builtin;refine cZ rfl (.tmp 32) (.tmp 34) rfl B1 _ l1 k HLK.out rfl (HOWE.out.below HBF.out) wE.heap.size x6 rfl HGF.out HX6.out.1 zo hkF ?_;intro sp8 cap8 w8 HO8 HB8 HG8;have wY:Hid (Ah w8 ga (enA t (.slice sp2 n cap2) (.slice s k c)) 25):=((HB8.out.block _ hgB).trans ((HBF.out.block _ zo).trans HGE.out));have cS:=iW wY.out;have fS:=frozen_of_row _ _ 2 _ _ wY.out))
   have HO9:=zh (HO8.out.setOther hgB 2 (.slice sp8 (k+1) cap8));have HG9:Hid ((w8.setCell ⟨ga,2,none⟩ (.slice sp8 (k+1) cap8)).heap[ga]? = some (.cells (enA t (.slice sp2 n cap2) (.slice sp8 (k+1) cap8)) 25 (0,0))):=by
    have h:=heap_setCell_same w8 ga 2 _ _ (.slice sp8 (k+1) cap8) wY.out;rw[uC] at h;exact h
   have HT9:Hid (∀ y ∈ l1++[x6],SgT (w8.setCell ⟨ga,2,none⟩ (.slice sp8 (k+1) cap8)) B1 y):=fun y hy=>by
    rcases List.mem_append.1 hy with h | h
    ·exact (((HTTE.out y h).below HBF.out).grown (HOWE.out.below HBF.out) HG8.out).setCell wY.out oQ 2 _
    ·rw[List.mem_singleton.1 h];exact ((HT6.out.below HBF.out).grown (HOWE.out.below HBF.out) HG8.out).setCell wY.out oQ 2 _
   have HW9:Hid (wc.grownBy (w8.setCell ⟨ga,2,none⟩ (.slice sp8 (k+1) cap8)) (some ga)):=bL (dI (dI (dI HGW.out (HBE.out.mono (by have:=HSR.out;have:=FA.out;omega))) (HBF.out.mono (by have:=FA.out;omega))) (HB8.out.mono (by have:=FA.out;omega))) _ _;generalize World.setCell w8 _ _=w9 at *;have HLP9:Hid ((l1++[x6]).map pg=(l.map pg).take (k+1)):=by show _=_;rw[List.map_append,HLP.out,HTK.out];simp[HX6.out.2]
   clear cS fS;go_wp2_with fail;go_roundw
   case rel=>exact⟨k+1,sp8,cap8,l1++[x6],by omega,by go_num,HG9,HO9,HLP9,HT9,HW9⟩
   case measure=>simp[intOf] <;> omega
  ·obtain rfl:k=m:=by omega
   have hd1:decide ((k:Int)<(k:Int))=false:=by simp
   have HPR:=zh (HPY.out.exc HG.out (by decide) HGW.out);have HRR:Hid (Ah wr (w.heap.size+1) zEn 25):=(HGW.out.block _ zo (fun e=>by injection e with e;omega)).trans HRC.out;have HLP9:Hid (l1.map pg=l.map pg):=by show _=_;rw[HLP.out,List.take_of_length_le (by rw[List.length_map,HL.out.len];omega)]
   have hBw:w.heap.size≤B:=Nat.le_of_lt HLT.out;have hBw1:w.heap.size≤B1:=by omega
   have hne:w.heap.size+1≠ga:=by omega
   have HFIN:=zh (setRow_heap wr (w.heap.size+1) zEn (enA t (.slice sp2 n cap2) (.slice s k c)) _ _ HRR.out);have HFB:=zh (below_setRow HBR.out (Nat.le_succ w.heap.size) (enA t (.slice sp2 n cap2) (.slice s k c)));have HFP:=zh (HPR.out.setRow HRR.out (by decide) (enA t (.slice sp2 n cap2) (.slice s k c)));have HFG:Hid (OwnG (wr.setRow (w.heap.size+1) (enA t (.slice sp2 n cap2) (.slice s k c))) B1 (.slice s k c) l1):=⟨World.ownsRow.kept HOW.out.1 (bT wr _ _) (cN HOW.out.1 HRR.out (by decide)),HOW.out.2⟩;have HFT:Hid (∀ y ∈ l1,SgT (wr.setRow (w.heap.size+1) (enA t (.slice sp2 n cap2) (.slice s k c))) B1 y):=fun y hy=>(HTT.out y hy).setRow HRR.out oQ _
   go_wp2_with (first
    | (refine wpList_load_row rfl 25 _ rfl ga rfl 25 _ (0,0) _ HGR.out Tryz.underlying25 rfl (aE _ _ _) ?_)
    | (refine wpList_store_row rfl 25 _ _ rfl (w.heap.size+1) (enA t (.slice sp2 n cap2) (.slice s k c)) rfl rfl 25 _ HRR.out (aE _ _ _) rfl (bI _ _ _ _ _ _ _) ?_))
   generalize World.setRow wr _ _=wz at *;exact bodyPost_ret (results_cell_row (P:=Tryz.prog) rfl _ _ (w.heap.size+1) 25 _ (0,0) _ rfl HFIN.out Tryz.underlying25 rfl (aE _ _ _)) rfl ⟨sp2,cap2,s,c,l1,rfl,HFP.out.base hBw,HFG.out.base hBw1,HLP9,fun y hy=>(HFT.out y hy).base hBw1,HFB.out⟩
end Go.Proofs.YtaeobegaodhpcaaGreatDoor
