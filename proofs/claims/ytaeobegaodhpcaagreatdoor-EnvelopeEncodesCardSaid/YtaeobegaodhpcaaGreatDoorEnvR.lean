/-
  Envelopes: the walk of the statements' made: what it signs (its loop).
-/
import Derived.Test.YtaeobegaodhpcaaGreatDoorZip
import Derived.Test.YtaeobegaodhpcaaGreatDoorEnvRm
set_option maxRecDepth 100000
set_option maxHeartbeats 8000000
namespace Go.Proofs.YtaeobegaodhpcaaGreatDoor
open Go.RowKit Go.Proofs.YtaeobegaodhpcaaGreatDoor.One
def caL (p s:Value) (k y:Int):List Value:=[p,s,.int .i64 k,.int .u8 y]
def caA (p s:Value) (k y:Int):Array Value:=(caL p s k y).toArray
theorem ca_p {w:World} {b:Nat} {p s:Value} {k y:Int} {fr:Nat × Nat} (hb:w.heap[b]? = some (.cells (caA p s k y) 27 fr)):w.cell? ⟨b,0,none⟩=some p:=aG (L:=caL p s k y) hb rfl
theorem ca_s {w:World} {b:Nat} {p s:Value} {k y:Int} {fr:Nat × Nat} (hb:w.heap[b]? = some (.cells (caA p s k y) 27 fr)):w.cell? ⟨b,1,none⟩=some s:=aG (L:=caL p s k y) hb rfl
theorem ca_k {w:World} {b:Nat} {p s:Value} {k y:Int} {fr:Nat × Nat} (hb:w.heap[b]? = some (.cells (caA p s k y) 27 fr)):w.cell? ⟨b,2,none⟩=some (.int .i64 k):=aG (L:=caL p s k y) hb rfl
theorem ca_y {w:World} {b:Nat} {p s:Value} {k y:Int} {fr:Nat × Nat} (hb:w.heap[b]? = some (.cells (caA p s k y) 27 fr)):w.cell? ⟨b,3,none⟩=some (.int .u8 y):=aG (L:=caL p s k y) hb rfl
def hfC (c:Int):List Int:=c :: List.replicate 15 0
theorem ZT {c:Int} (h0:0≤c) (h1:c<256):H16 (hfC c):=⟨rfl,fun y hy=>by
 simp only[hfC,List.mem_cons,List.mem_replicate] at hy;rcases hy with rfl | ⟨_,rfl⟩ <;> omega⟩
theorem WS (c:Int) (w:World):(Instr.build 42 #[(0,.int .u8 c)]).run Tryz.prog w=.ok (.agg (hvA (hfC c))) w:=by kernel_rfl
theorem RI (x:List Int) (h:Int) (hx:H16 x) (w:World) :
 (Instr.build 52 #[(0,.agg (hvA x)),(1,.int .i64 h)]).run Tryz.prog w=.ok (.agg (sgA x h 0)) w:=by
 refine run_build w _ _ _ ?_;rw[pC YQ Tryz.underlying52 (places:=[(0,16),(16,1),(17,1)]) (by kernel_rfl)];show Instr.fill _ ([]++(List.replicate 16 (Value.int .u8 0)++[Value.int .i64 0,Value.int .i64 0])).toArray [(0,.agg (x.map (Value.int .u8)).toArray),(1,.int .i64 h)]=_;rw[jP (x.map (Value.int .u8)) [] (List.replicate 16 (Value.int .u8 0)) [Value.int .i64 0,Value.int .i64 0] (off:=0) (sz:=16) rfl rfl (by rw[List.length_map,hx.1]) rfl (by simp),List.nil_append];rw[show x.map (Value.int .u8)++[Value.int .i64 0,Value.int .i64 0]=x.map (Value.int .u8)++([Value.int .i64 0]++[Value.int .i64 0]) by simp];rw[jP [Value.int .i64 h] (x.map (Value.int .u8)) [Value.int .i64 0] [Value.int .i64 0] (off:=16) (sz:=1) rfl rfl rfl (by rw[List.length_map,hx.1]) rfl];simp[Instr.fill,sgA,sgL]
structure MkG (w:World) (D:Nat) (s:Value) (l:List Sg):Prop where
 o:OwnG w D s l
 t:∀ y ∈ l,SgT w D y
theorem MkG.below {w w':World} {D:Nat} {s:Value} {l:List Sg} (h:MkG w D s l) (hb:Below w.heap.size w w'):MkG w' D s l:=⟨h.o.below hb,fun y hy=>(h.t y hy).below hb⟩
theorem MkG.setRow {w:World} {D:Nat} {s:Value} {l:List Sg} (h:MkG w D s l) {g:Nat} {cs:Array Value} {t:TypeId} {fr:Nat × Nat} (hg:w.heap[g]? = some (.cells cs t fr)) (ht:t≠42∧t≠50) (u:Array Value):MkG (w.setRow g u) D s l :=
 ⟨⟨World.ownsRow.kept h.o.1 (bT _ _ _) (cN h.o.1 hg ht.2),h.o.2⟩,fun y hy=>(h.t y hy).setRow hg ht.1 u⟩
theorem MkG.setCell {w:World} {D:Nat} {s:Value} {l:List Sg} (h:MkG w D s l) {g:Nat} {cs:Array Value} {t:TypeId} {fr:Nat × Nat} (hg:w.heap[g]? = some (.cells cs t fr)) (ht:t≠42∧t≠50) (o:Nat) (u:Value):MkG (w.setCell ⟨g,o,none⟩ u) D s l :=
 ⟨⟨World.ownsRow.kept h.o.1 (aY _ _ _ _) (cN h.o.1 hg ht.2),h.o.2⟩,fun y hy=>(h.t y hy).setCell hg ht.1 o u⟩
theorem MkG.sgs {w:World} {D:Nat} {sp:Option Addr} {n cap:Nat} {l:List Sg} (h:MkG w D (.slice sp n cap) l) (hn:l.length=n):SgsIn w w.heap.size sp n cap l:=h.o.sgs hn fun y hy=>(h.t y hy).dat
structure MkC (c:Prop) (w:World) (D:Nat) (s:Value) (l:List Sg):Prop where
 g:c→MkG w D s l
theorem MkC.below {c:Prop} {w w':World} {D:Nat} {s:Value} {l:List Sg} (h:MkC c w D s l) (hb:Below w.heap.size w w'):MkC c w' D s l:=⟨fun hc=>(h.g hc).below hb⟩
theorem MkC.setRow {c:Prop} {w:World} {D:Nat} {s:Value} {l:List Sg} (h:MkC c w D s l) {g:Nat} {cs:Array Value} {t:TypeId} {fr:Nat × Nat} (hg:w.heap[g]? = some (.cells cs t fr)) (ht:t≠42∧t≠50) (u:Array Value):MkC c (w.setRow g u) D s l:=⟨fun hc=>(h.g hc).setRow hg ht u⟩
def SgQ (V:SgV) (P:Value) (D:Nat) (w:World) (e:Ending) (w':World):Prop :=
 ∃ (a1:Option Addr) (n1 c1:Nat) (a2:Option Addr) (n2 c2:Nat) (l':List Sg),e=.returned (.tuple #[.agg (enA V.t (.slice a1 n1 c1) (.slice a2 n2 c2)),.agg (sgA V.x V.h V.n),.int .i64 V.E])∧MkC (V.E=0) w' D (.slice a2 n2 c2) l'∧(V.E=0 → .slice a1 n1 c1=P∧l'.length=n2∧l'.map pg=V.L)∧Below w.heap.size w w'
theorem SgO.Q {V:SgV} {sp:Option Addr} {n cap:Nat} {s:Value} {D:Nat} {l:List Sg} {w w':World} {e:Ending} (hD:D≤w.heap.size) (hg:MkG w D s l) (h:SgO V (.slice sp n cap) l w e w'):SgQ V (.slice sp n cap) D w e w':=by
 obtain⟨hb,⟨h1,h2,rfl⟩ | ⟨h1,sp',n',cap',l',rfl,hn,hL,ho,hd⟩⟩:=h
 ·rw[h2];exact⟨none,0,0,none,0,0,[],rfl,⟨fun hc=>absurd hc h1⟩,fun hc=>absurd hc h1,hb⟩
 ·refine⟨sp,n,cap,sp',n',cap',l',by rw[h1],⟨fun _=>⟨ho.base hD,fun y hy=>?_⟩⟩,fun _=>⟨rfl,hn,hL⟩,hb⟩;rcases hd y hy with h | h
  ·exact (hg.t y h).below hb
  ·exact h.base hD
theorem ZB {t:ByteArray} {b:List UInt8} {L:List Pg} {x:List Int} {h n:Int} (hx:H16 x):H16 (qN t b L x h n).x:=by
 unfold qN;split
 ·exact hx
 ·exact aN
theorem ZC {t:ByteArray} {b:List UInt8} {L:List Pg} {x:List Int} {h n:Int} (h0:(qN t b L x h n).E=0):(qN t b L x h n).t=t∧(qN t b L x h n).L=sR L (mF x h n (fO t b)):=by
 unfold qN at *
 split
 ·exact⟨rfl,rfl⟩
 ·rename_i hne
  rw[if_neg hne] at h0;exact absurd h0 hne
def MkP (L:List Pg) (i:Nat):Prop:=L.length≤i∧∀ z ∈ L,z.l.length=68∧z.q.length≤6
theorem MkP.ins {L:List Pg} {i:Nat} {x:List Int} {h n:Int} {d:List Int} (hp:MkP L i) (hh:h≤6):MkP (sR L (mF x h n d)) (i+1):=⟨by rw[DU];have:=hp.1;omega,fun z hz=>by
 rcases qR hz with hz | rfl
 ·exact hp.2 z hz
 ·exact⟨lB _ _ _,by show (eP _ _ _).length≤6;rw[iQ];omega⟩⟩
structure MdS (w:World) (CV:Array Value) (t:ByteArray) (P s:Value) (g D:Nat) (l:List Sg) (wr:World):Prop where
 c:wr.heap[w.heap.size]? = some (.cells CV 27 (0,0))
 y:wr.heap[w.heap.size+1]? = some (.cells zEn 25 (0,0))
 e:wr.heap[g]? = some (.cells (enA t P s) 25 (0,0))
 b:Below w.heap.size w wr
 g:MkG wr D s l
 k:D≤wr.heap.size
theorem MdS.below {w:World} {CV:Array Value} {t:ByteArray} {P s:Value} {g D:Nat} {l:List Sg} {wr w':World} (h:MdS w CV t P s g D l wr) (hb:Below wr.heap.size wr w') (h1:w.heap.size+2≤D) (h2:g<D):MdS w CV t P s g D l w':=by
 have hk:=h.k;exact⟨(hb.block _ zo).trans h.c,(hb.block _ zo).trans h.y,(hb.block _ zo).trans h.e,h.b.trans (hb.mono zo),h.g.below hb,Nat.le_trans hk hb.size⟩
theorem tm6 (a:Int) : -6<a.tmod 6∧a.tmod 6<6:=by
 rcases Int.le_total 0 a with h | h
 ·rw[Int.tmod_eq_emod_of_nonneg h];omega
 ·have e:a.tmod 6 = -((-a).tmod 6):=by rw[Int.neg_tmod,Int.neg_neg]
  rw[e,Int.tmod_eq_emod_of_nonneg zo];omega
theorem tN (w:World) (a:Addr) (u:Value):w.heap.size≤(w.setCell a u).heap.size:=((Below.refl 0 w).setCell (p:=a) (Nat.zero_le _) u).size
theorem WG (t t':ByteArray) (p s:Value):(enA t p s).setIfInBounds 0 (.string t')=enA t' p s:=by simp[enA,enL]
theorem kN (t:ByteArray) (p p' s:Value):(enA t p s).setIfInBounds 1 p'=enA t p' s:=by simp[enA,enL]
theorem MdS.setAny {w:World} {CV:Array Value} {t t':ByteArray} {P s P' s':Value} {g D:Nat} {l l':List Sg} {wr:World} (h:MdS w CV t P s g D l wr) (o:Nat) (u:Value) (he:(enA t P s).setIfInBounds o u=enA t' P' s') (hg:MkG wr D s' l') (h1:g≠w.heap.size∧g≠w.heap.size+1∧w.heap.size≤g):MdS w CV t' P' s' g D l' (wr.setCell ⟨g,o,none⟩ u):=by
 have h2:=heap_setCell_same wr g o _ _ u h.e;rw[he] at h2;exact⟨(heap_setCell_other wr ⟨g,o,none⟩ _ _ (Ne.symm h1.1)).trans h.c,(heap_setCell_other wr ⟨g,o,none⟩ _ _ (Ne.symm h1.2.1)).trans h.y,h2,h.b.setCell (p:=⟨g,o,none⟩) h1.2.2 _,hg.setCell h.e (by decide) _ _,Nat.le_trans h.k (tN _ _ _)⟩
theorem yA {j:Nat} (hj:j<20) {x':Sg} (u:Value):∀ (l:List Sg) (k:Nat) (x:Sg),(∀ y ∈ l,OkG y)→l[k]? = some x→aX x'=(aX x).set j u→(aR l).set (k*20+j) u=aR (l.set k x')
 | [],k,x,_,hx,_=>by simp at hx
 | y :: t, 0, x, hok, hx, hs => by
   injection hx with hx;subst hx
   have h20:=aJ (hok y (by simp));show (aX y++aR t).set (0*20+j) u=aX x'++aR t;rw[List.set_append_left _ _ zo,hs,show 0*20+j=j by omega]
 | y :: t, k + 1, x, hok, hx, hs => by
   have h20:=aJ (hok y (by simp));show (aX y++aR t).set ((k+1)*20+j) u=aX y++aR (t.set k x');rw[List.set_append_right _ _ zo,h20,show (k+1)*20+j-20=k*20+j by omega,yA hj u t k x (fun z hz=>hok z (by simp[hz])) (by simpa using hx) hs]
theorem SgT.one {w:World} {D:Nat} {x x':Sg} (h:SgT w D x) (hr:OkG x') (h1:x'.sp=x.sp∧x'.n=x.n∧x'.c=x.c∧x'.l=x.l) (h2:x'.sq=x.sq∧x'.m=x.m∧x'.d=x.d∧x'.q=x.q):SgT w D x':=by
 obtain⟨a1,a2,a3,a4⟩:=h1;obtain⟨b1,b2,b3,b4⟩:=h2;exact⟨hr,by rw[a1,a2,a3,a4];exact h.c,by rw[b1,b2,b3,b4];exact h.p,by rw[a2,a4];exact h.cl,by rw[b2,b4];exact h.pl⟩
theorem MkG.setK {w:World} {D gS n cap:Nat} {l:List Sg} (h:MkG w D (.slice (some ⟨gS,0,none⟩) n cap) l) (hn:l.length=n) {k j:Nat} (hj:j<20) {x x':Sg} (hx:l[k]? = some x) (u:Value) (hs:aX x'=(aX x).set j u) (hr:OkG x') (ht:SgT w D x'):MkG (w.setCell ⟨gS,k*20+j,none⟩ u) D (.slice (some ⟨gS,0,none⟩) n cap) (l.set k x'):=by
 have ho:=h.o.1;rw[hn] at ho;have h1:=(World.ownsRow.stored ho (k*20+j) u).1;rw[yA hj u l k x h.o.2 hx hs] at h1;have hm:∀ y ∈ l.set k x',y ∈ l∨y=x':=fun y hy=>List.mem_or_eq_of_mem_set hy;refine⟨⟨by rw[List.length_set,hn];exact h1,fun y hy=>?_⟩,fun y hy=>?_⟩
 ·rcases hm y hy with h2 | rfl
  ·exact h.o.2 y h2
  ·exact hr
 ·obtain⟨_,⟨e,_⟩ | ⟨g',c',cur,e,_,hg,_⟩⟩:=ho
  ·cases e
  ·injection e with e _ _;injection e with e;injection e with e _ _;subst e
   rcases hm y hy with h2 | rfl
   ·exact (h.t y h2).setCell hg (by decide) _ _
   ·exact ht.setCell hg (by decide) _ _
theorem MkP.set {l:List Sg} {i k:Nat} {x':Sg} (h:MkP (l.map pg) i) (h1:x'.l.length=68) (h2:x'.q.length≤6):MkP ((l.set k x').map pg) i:=⟨by have:=h.1;rw[List.length_map] at *;rw[List.length_set];exact this,fun z hz=>by
 obtain⟨y,hy,rfl⟩:=List.mem_map.1 hz;rcases List.mem_or_eq_of_mem_set hy with hy | rfl
 ·exact h.2 _ (List.mem_map.2 ⟨y,hy,rfl⟩)
 ·exact⟨h1,h2⟩⟩
theorem MdS.setG {w:World} {CV:Array Value} {t:ByteArray} {P:Value} {g D gS n cap:Nat} {l l':List Sg} {wr:World} (h:MdS w CV t P (.slice (some ⟨gS,0,none⟩) n cap) g D l wr) (o:Nat) (u:Value) (hg:MkG (wr.setCell ⟨gS,o,none⟩ u) D (.slice (some ⟨gS,0,none⟩) n cap) l') (h1:w.heap.size+2≤D) (h2:g<D):MdS w CV t P (.slice (some ⟨gS,0,none⟩) n cap) g D l' (wr.setCell ⟨gS,o,none⟩ u):=by
 have hD:=bO h.g.o.1 gS rfl;exact⟨(heap_setCell_other wr ⟨gS,o,none⟩ _ _ (show w.heap.size≠gS by omega)).trans h.c,(heap_setCell_other wr ⟨gS,o,none⟩ _ _ (show w.heap.size+1≠gS by omega)).trans h.y,(heap_setCell_other wr ⟨gS,o,none⟩ _ _ (show g≠gS by omega)).trans h.e,h.b.setCell (p:=⟨gS,o,none⟩) (show w.heap.size≤gS by omega) _,hg,Nat.le_trans h.k (tN _ _ _)⟩
theorem uQ (a b:Int):0≤bits .xor .u8 a b∧bits .xor .u8 a b<256:=⟨bits_lo_u8 _ _ _,by have:=bits_hi_u8 .xor a b;omega⟩
def BC (x:Sg) (v:Int):Sg:={ x with r:=x.r.set 3 v }
theorem DH {x:Sg} {v:Int} (h:OkG x) (hv:0≤v∧v<256):OkG (BC x v):=⟨by show (x.r.set 3 v).length=16;rw[List.length_set];exact h.1,fun y hy=>by
 rcases List.mem_or_eq_of_mem_set (show y ∈ x.r.set 3 v from hy) with hy | rfl
 ·exact h.2 y hy
 ·exact hv⟩
theorem UY {x:Sg} {v:Int} (h:OkG x):aX (BC x v)=(aX x).set 4 (.int .u8 v):=by
 have h16:x.r.length=16:=h.1;show (Value.int .i64 x.h :: (x.r.set 3 v).map (Value.int .u8))++sgS x=((Value.int .i64 x.h :: x.r.map (Value.int .u8))++sgS x).set 4 _;rw[List.set_append_left _ _ (by rw[List.length_cons,List.length_map];omega),List.set_cons_succ,List.map_set]
def putL:List Value→Nat→List Value→List Value
 | xs,_,[]=>xs
 | xs,o,v :: r=>putL (xs.set o v) (o+1) r
theorem vG:∀ (cs mid pre post:List Value),cs.length=mid.length→putL (pre++(mid++post)) pre.length cs=pre++(cs++post)
 | [],[],pre,post,_=>rfl
 | [],_ :: _,_,_,h=>by simp at h
 | _ :: _,[],_,_,h=>by simp at h
 | c :: cs, m :: mid, pre, post, h => by
   show putL ((pre++(m :: mid++post)).set pre.length c) (pre.length+1) cs=_;rw[List.set_append_right _ _ zl,Nat.sub_self];have:=vG cs mid (pre++[c]) post (by simpa using h);rw[List.length_append] at this;simpa using this
theorem vJ {base e size g n cap:Nat}:∀ (cs:List Value) (o:Nat) (w:World) (xs:List Value),w.ownsRow base e size (.slice (some ⟨g,0,none⟩) n cap) n xs→(w.setCells g o cs).ownsRow base e size (.slice (some ⟨g,0,none⟩) n cap) n (putL xs o cs)
 | [],_,_,_,h=>h
 | c :: r,o,w,xs,h=>vJ r (o+1) _ _ (World.ownsRow.stored h o c).1
theorem SgT.setCells {g D:Nat} {x:Sg}:∀ (cs:List Value) (o:Nat) (w:World),SgT w D x→(∃ cur,w.heap[g]? = some (.cells cur 50 (0,0)))→SgT (w.setCells g o cs) D x
 | [],_,_,h,_=>h
 | c :: r, o, w, h, hg => by
   obtain⟨cur,hg⟩:=hg;exact SgT.setCells r (o+1) _ (h.setCell hg (by decide) o c) ⟨_,heap_setCell_same w g o _ _ c hg⟩
theorem fD (g k:Nat) (hk:k≠g):∀ (cs:List Value) (o:Nat) (w:World),(w.setCells g o cs).heap[k]? = w.heap[k]?
 | [],_,_=>rfl
 | c :: r,o,w=>(fD g k hk r (o+1) _).trans (heap_setCell_other w ⟨g,o,none⟩ _ _ hk)
theorem iA {B g:Nat} {a:World} (hB:B≤g):∀ (cs:List Value) (o:Nat) (w:World),Below B a w→Below B a (w.setCells g o cs)
 | [],_,_,h=>h
 | c :: r,o,w,h=>iA hB r (o+1) _ (h.setCell (p:=⟨g,o,none⟩) hB c)
theorem AX {g:Nat} (cs:List Value) (o:Nat) (w:World):w.heap.size≤(w.setCells g o cs).heap.size:=(iA (B:=0) (Nat.zero_le _) cs o w (Below.refl _ _)).size
theorem MkG.setW {w:World} {D gS n cap:Nat} {l:List Sg} (h:MkG w D (.slice (some ⟨gS,0,none⟩) n cap) l) (hn:l.length=n) {k:Nat} (hk:k<n) {x':Sg} (hr:OkG x') (ht:SgT w D x'):MkG (w.setCells gS (k*20) (aX x')) D (.slice (some ⟨gS,0,none⟩) n cap) (l.set k x'):=by
 have ho:=h.o.1;rw[hn] at ho;have hg:∃ cur,w.heap[gS]? = some (.cells cur 50 (0,0)):=by
  obtain⟨_,⟨e,_⟩ | ⟨g',c',cur,e,_,hg,_⟩⟩:=ho
  ·cases e
  ·injection e with e _ _;injection e with e;injection e with e _ _;subst e;exact⟨cur,hg⟩
 have hkl:k<l.length:=by omega
 have hlen:(aR (l.take k)).length=k*20:=by
  have:=lI aX 20 (l.take k) (fun z hz=>aJ (h.o.2 z (List.mem_of_mem_take hz)));rw[List.length_take,Nat.min_eq_left zo] at this;exact this
 have e1:aR l=aR (l.take k)++(aX l[k]++aR (l.drop (k+1))):=by
  have:l=l.take k++l[k] :: l.drop (k+1):=by rw[List.getElem_cons_drop,List.take_append_drop]
  conv=>lhs;rw[this]
  rw[eL];rfl
 have e2:aR (l.set k x')=aR (l.take k)++(aX x'++aR (l.drop (k+1))):=by
  rw[List.set_eq_take_append_cons_drop,if_pos hkl,eL];rfl
 have h1:=vJ (aX x') (k*20) w _ ho;rw[e1,←hlen,vG _ _ _ _ (by rw[aJ hr,aJ (h.o.2 _ (List.getElem_mem _))]),←e2,hlen] at h1;refine⟨⟨by rw[List.length_set,hn];exact h1,fun y hy=>?_⟩,fun y hy=>?_⟩
 ·rcases List.mem_or_eq_of_mem_set hy with h2 | rfl
  ·exact h.o.2 y h2
  ·exact hr
 ·rcases List.mem_or_eq_of_mem_set hy with h2 | rfl
  ·exact (h.t y h2).setCells _ _ _ hg
  ·exact ht.setCells _ _ _ hg
theorem MdS.setGs {w:World} {CV:Array Value} {t:ByteArray} {P:Value} {g D gS n cap:Nat} {l l':List Sg} {wr:World} (h:MdS w CV t P (.slice (some ⟨gS,0,none⟩) n cap) g D l wr) (o:Nat) (cs:List Value) (hg:MkG (wr.setCells gS o cs) D (.slice (some ⟨gS,0,none⟩) n cap) l') (h1:w.heap.size+2≤D) (h2:g<D):MdS w CV t P (.slice (some ⟨gS,0,none⟩) n cap) g D l' (wr.setCells gS o cs):=by
 have hD:=bO h.g.o.1 gS rfl;exact⟨(fD gS _ zo cs o wr).trans h.c,(fD gS _ zo cs o wr).trans h.y,(fD gS _ zo cs o wr).trans h.e,iA zo cs o wr h.b,hg,Nat.le_trans h.k (AX _ _ _)⟩
theorem BK {w:World} {D gS n cap:Nat} {l:List Sg} (h:OwnG w D (.slice (some ⟨gS,0,none⟩) n cap) l):∃ cur,w.heap[gS]? = some (.cells cur 50 (0,0)):=by
 obtain⟨_,⟨e,_⟩ | ⟨g',c',cur,e,_,hg,_⟩⟩:=h.1
 ·cases e
 ·injection e with e _ _;injection e with e;injection e with e _ _;subst e;exact⟨cur,hg⟩
theorem MkG.rng {w:World} {D gS n cap:Nat} {l:List Sg} (h:MkG w D (.slice (some ⟨gS,0,none⟩) n cap) l) (hn:l.length=n) {k:Nat} {x:Sg} (hx:l[k]? = some x):w.rangeAt gS (k*20) (aX x):=by
 have hk:=(List.getElem?_eq_some_iff.1 hx).1;obtain⟨bb,off,e,_,_,hrr⟩:=(h.sgs hn).cells zo;injection e with e;injection e with e1 e2;subst e1 e2
 have:=hrr k x hx;rw[Nat.zero_add] at this;exact this
theorem MkG.there {w:World} {D gS n cap:Nat} {l:List Sg} (h:MkG w D (.slice (some ⟨gS,0,none⟩) n cap) l) (hn:l.length=n) {k:Nat} {x:Sg} (hx:l[k]? = some x):w.there gS (k*20) 20:=fun j hj=>by
 have h20:=aJ (h.o.2 x (List.mem_of_getElem? hx));have h1:=h.rng hn hx j (aX x)[j] (List.getElem?_eq_getElem zo);obtain⟨cur,hg⟩:=BK h.o;exact⟨by rw[h1];rfl,frozen_of_row _ _ _ _ _ hg⟩
theorem MdS.drew {w:World} {CV:Array Value} {t:ByteArray} {P s:Value} {g D:Nat} {l:List Sg} {wr:World} (h:MdS w CV t P s g D l wr) (h1:w.heap.size+2≤D) (h2:g<D):MdS w CV t P s g D l wr.drew:=h.below ((Below.refl _ _).drew) h1 h2
theorem FW {d:List Int} {t:List (List Int)} (v:Int) (hd:0<d.length):(gO (d :: t)).set 0 (.int .u8 v)=gO (d.set 0 v :: t):=by
 cases d with
 | nil=>cases hd
 | cons y d=>rfl
theorem OwnHv.poke0 {w:World} {base n cap gC:Nat} {d:List Int} {t:List (List Int)} (h:OwnHv w base (.slice (some ⟨gC,0,none⟩) n cap) (d :: t)) (hn:(d :: t).length=n) (v:Int) (hv:0≤v∧v<256):OwnHv (w.setCell ⟨gC,0,none⟩ (.int .u8 v)) base (.slice (some ⟨gC,0,none⟩) n cap) (d.set 0 v :: t):=by
 have hd:=h.2 d (by simp);have h1:=h.1;rw[hn] at h1;have h2:=(World.ownsRow.stored h1 0 (.int .u8 v)).1;rw[FW v (by rw[hd.1];omega)] at h2;refine⟨by rw[show (d.set 0 v :: t).length=n from hn];exact h2,fun y hy=>?_⟩;rcases List.mem_cons.1 hy with rfl | hy
 ·exact⟨by rw[List.length_set];exact hd.1,fun z hz=>by
   rcases List.mem_or_eq_of_mem_set hz with hz | rfl
   ·exact hd.2 z hz
   ·exact hv⟩
 ·exact h.2 y (by simp[hy])
theorem MkG.setV {w:World} {D gS n cap:Nat} {l:List Sg} (h:MkG w D (.slice (some ⟨gS,0,none⟩) n cap) l) (hn:l.length=n) {k:Nat} {x x':Sg} (hx:l[k]? = some x) (hr:OkG x') (ht:SgT w D x') (hP:sgP x'=sgP x):MkG (w.setCells gS (k*20+17) (sgS x')) D (.slice (some ⟨gS,0,none⟩) n cap) (l.set k x'):=by
 have ho:=h.o.1;rw[hn] at ho;have hg:∃ cur,w.heap[gS]? = some (.cells cur 50 (0,0)):=BK h.o;obtain⟨hkl,hxk⟩:=List.getElem?_eq_some_iff.1 hx;have hlen:(aR (l.take k)++sgP x).length=k*20+17:=by
  have:=lI aX 20 (l.take k) (fun z hz=>aJ (h.o.2 z (List.mem_of_mem_take hz)));rw[List.length_take,Nat.min_eq_left zo] at this;rw[List.length_append,jC (h.o.2 x (List.mem_of_getElem? hx))];show (aR (l.take k)).length+17=_;rw[show (aR (l.take k)).length=k*20 from this]
 have e1:aR l=(aR (l.take k)++sgP x)++(sgS x++aR (l.drop (k+1))):=by
  have:l=l.take k++l[k] :: l.drop (k+1):=by rw[List.getElem_cons_drop,List.take_append_drop]
  conv=>lhs;rw[this]
  rw[eL,hxk];show aR (l.take k)++((sgP x++sgS x)++aR (l.drop (k+1)))=_;simp only[List.append_assoc]
 have e2:aR (l.set k x')=(aR (l.take k)++sgP x)++(sgS x'++aR (l.drop (k+1))):=by
  rw[List.set_eq_take_append_cons_drop,if_pos hkl,eL];show aR (l.take k)++((sgP x'++sgS x')++aR (l.drop (k+1)))=_;rw[hP];simp only[List.append_assoc]
 have h1:=vJ (sgS x') (k*20+17) w _ ho;rw[e1,←hlen,vG (sgS x') (sgS x) _ _ rfl,←e2,hlen] at h1;refine⟨⟨by rw[List.length_set,hn];exact h1,fun y hy=>?_⟩,fun y hy=>?_⟩
 ·rcases List.mem_or_eq_of_mem_set hy with h2 | rfl
  ·exact h.o.2 y h2
  ·exact hr
 ·rcases List.mem_or_eq_of_mem_set hy with h2 | rfl
  ·exact (h.t y h2).setCells _ _ _ hg
  ·exact ht.setCells _ _ _ hg
def WO (x:Sg) (sp:Option Addr) (c:Nat) (l:List (List Int)):Sg:={ x with sp:=sp,c:=c,l:=l }
theorem WN {t:ByteArray} {b:List UInt8} {l:List Sg} {k:Nat} {x:Sg} {sp:Option Addr} {c:Nat} {q:List (List Int)} (hx:l[k]? = some x) (hq:q.length=x.l.length) (hv:fM t b (l.map pg)=true):fM t b ((l.set k (WO x sp c q)).map pg)=true:=by
 rw[List.map_set];refine FF (z:=pg x) (by rw[List.getElem?_map,hx];rfl) rfl ?_ hv;unfold tL;show mA x.h x.a q.length x.q.length=mA x.h x.a x.l.length x.q.length;rw[hq]
theorem bE {w:World} {o:Oper} {a:Act} {K:Act→World→Prop} {Q:Exit→Act→World→Prop} (s x:Operand)
 (ho:o.op=.call { callee:=.builtin .append,args:=#[s,x],argTypes:=#[22,22] }) (base:Nat) (v:Value) (l:List UInt8) (n:Nat) (hn:n=l.length) (hs:a.eval s=v) (hown:OwnBy w base v l)
 (sp2:Option Addr) (m cap2 B:Nat) (l2:List UInt8) (hx:a.eval x=.slice sp2 m cap2) (hsrc:BSrc w B sp2 m cap2 l2) (hnil:sp2=none→cap2=0) (hlen:n+m≤1000000) (hbase:base≤w.heap.size)
 (h:∀ sp cap w',Hid (OwnBy w' base (.slice sp (n+m) cap) (l++l2))→Hid (Below base w w')→Hid (w.grownBy w' v.ownBlock)→K (a.put o.dst (.slice sp (n+m) cap)) w'):o.wp Tryz.prog a w K Q:=by
 subst hn;obtain⟨i0,hi0,hz0,hz1,hz2⟩:=info_parts Tryz.info5a;have hl2:=hsrc.len;have hbc:∀ q:List UInt8,(Lib.byteCells q).length=q.length:=fun q=>by unfold Lib.byteCells;rw[List.length_map]
 cases sp2 with
 | none =>
   have hm:m=0:=by
    by_cases h0:0<m
    ·obtain⟨_,_,e,_⟩:=hsrc.cells h0;cases e
    ·omega
   subst hm;have e2:l2=[]:=List.eq_nil_of_length_eq_zero hl2;subst e2;rw[hnil rfl] at hx;have hrun:=run_append_owned_none (P:=Tryz.prog) (w:=w) base 22 o.type 5 i0 1 Tryz.underlying22 hi0 v l.length _ hown;obtain⟨sp,cap,rfl⟩:=aM hown;unfold Oper.wp;simp[execOp,ho,resolve,invoke,builtin,hs,hx,hrun,Result.andThen];exact h sp cap w (by show OwnBy _ _ _ _;simpa using hown) (Below.refl _ _) (World.grownBy.refl _ _)
 | some ad =>
   refine wp_append_own w s x _ ho base _ i0 _ 1 1 Tryz.underlying22 hi0 hz0 hz1 hz2 rfl (by decide) v l.length _ hs hown ad m cap2 (Lib.byteCells l2) hx (by rw[hbc,hl2];omega) ?_ (fun u hu=>by obtain⟨c,_,rfl⟩:=List.mem_map.1 hu;rfl) (by unfold maxLen;omega) zo hbase ?_
   ·intro j u hj;have hjl:j<l2.length:=by have:=(List.getElem?_eq_some_iff.1 hj).1;rwa [hbc] at this
    obtain⟨b,off,e,_,_,hr⟩:=hsrc.cells zo;injection e with e;subst e
    have h1:=hr j hjl;unfold Lib.byteCells at hj;rw[List.getElem?_map,List.getElem?_eq_getElem hjl] at hj;injection hj with hj
    rw[Addr.add_mid,h1];exact congrArg some hj
   ·intro v' w' h1 h2 _;obtain⟨sp,cap,rfl⟩:=aM h1;refine h sp cap w' ?_ ((Below.refl base w).grown h2 hbase (bO hown)) h2;show World.ownsRow _ _ _ _ _ _ _;rw[show Lib.byteCells (l++l2)=Lib.byteCells l++Lib.byteCells l2 by unfold Lib.byteCells;rw[List.map_append],List.length_append,hl2];exact h1
theorem pX {w:World} {g:Nat} {y:UInt8} {fr:Nat × Nat} (h:w.heap[g]? = some (.cells #[.int .u8 (y.toNat:Int)] 5 fr)):BSrc w w.heap.size (some ⟨g,0,none⟩) 1 1 [y] :=
 ⟨rfl,fun _=>⟨g,0,rfl,(Array.getElem?_eq_some_iff.1 h).1,Nat.le_refl _,fun j hj=>by
  rcases j with _ | j
  ·exact aG (L:=[.int .u8 (y.toNat:Int)]) h rfl
  ·exact absurd hj (by show ¬ _<1;omega)⟩⟩
theorem UG (a:Int) (c c' p:Value):(siA a c p).setIfInBounds 1 c'=siA a c' p:=by simp[siA,siL]
structure MdO (kk:Int) (B0:List UInt8) (w:World) (e:Ending) (w':World):Prop where
 h:∃ (t:ByteArray) (a1:Option Addr) (n1 c1:Nat) (a2:Option Addr) (n2 c2:Nat) (b':List UInt8) (l':List Sg),e=.returned (.agg (enA t (.slice a1 n1 c1) (.slice a2 n2 c2)))∧Hid (EnvIn w' w'.heap.size (.slice a1 n1 c1) (.slice a2 n2 c2) b' l')∧t.size≤300∧n1≤201∧n2≤3∧(∀ y ∈ l',y.n≤100∧y.m≤20)∧Below w.heap.size w w'∧(spz kk=0→t=eV∧b'=B0∧GdP eV B0 (l'.map pg))∧(spz kk=1→t=eV∧b'=B0∧fM eV B0 (l'.map pg)=true)
theorem MdO.of {kk:Int} {B0:List UInt8} {w w':World} {t:ByteArray} {a1:Option Addr} {n1 c1:Nat} {a2:Option Addr} {n2 c2 D:Nat} {b':List UInt8} {l':List Sg} (ht:t.size≤300) (hp:BSrc w' w'.heap.size a1 n1 c1 b') (hpn:a1=none→c1=0) (hg:MkG w' D (.slice a2 n2 c2) l') (hl:l'.length=n2) (h1:n1≤201) (h2:MkP (l'.map pg) 3) (hb:Below w.heap.size w w') (hg0:spz kk=0→t=eV∧b'=B0∧GdP eV B0 (l'.map pg)) (hg1:spz kk=1→t=eV∧b'=B0∧fM eV B0 (l'.map pg)=true) :
 MdO kk B0 w (.returned (.agg (enA t (.slice a1 n1 c1) (.slice a2 n2 c2)))) w' :=
 ⟨t,a1,n1,c1,a2,n2,c2,b',l',rfl,⟨⟨a1,n1,c1,rfl,hp,hpn⟩,⟨a2,n2,c2,rfl,hg.sgs hl,hg.o.nilcap⟩⟩,ht,h1,by have:=h2.1;rw[List.length_map] at this;omega,fun y hy=>by
  have h3:=h2.2 (pg y) (List.mem_map.2 ⟨y,hy,rfl⟩);have h4:=(hg.t y hy).cl;have h5:=(hg.t y hy).pl;have h6:y.l.length=68:=h3.1;have h7:y.q.length≤6:=h3.2;omega,hb,hg0,hg1⟩
theorem qE {w:World} {ops:Array Oper} {rest:List Oper} {o:Oper} {a:Act} {Q:Exit→Act→World→Prop} (hgd:o.guard=none) (s x:Operand)
 (ho:o.op=.call { callee:=.builtin .append,args:=#[s,x],argTypes:=#[23,23] }) (base:Nat) (v:Value) (l:List Sg) (n:Nat) (hn:n=l.length) (hs:a.eval s=v) (hown:OwnG w base v l)
 (sp2:Option Addr) (m cap2 B:Nat) (l2:List Sg) (hx:a.eval x=.slice sp2 m cap2) (hsrc:SgsIn w B sp2 m cap2 l2) (hnil:sp2=none→cap2=0) (hlen:n+m≤1000000) (hbase:base≤w.heap.size)
 (h:∀ sp cap w',Hid (OwnG w' base (.slice sp (n+m) cap) (l++l2))→Hid (Below base w w')→Hid (w.grownBy w' v.ownBlock)→wpList Tryz.prog ops Q rest (a.put o.dst (.slice sp (n+m) cap)) w'):wpList Tryz.prog ops Q (o :: rest) a w :=
 wpList_plain hgd fun _ hK=>fH s x ho base v l n hn hs hown sp2 m cap2 B l2 hx hsrc hnil hlen hbase fun sp cap w' h1 h2 h3=>hK _ _ (h sp cap w' h1 h2 h3)
theorem QE (n:Nat) (cap:Nat) (sp:Option Addr) (b:List UInt8) (sc:Option Addr) (nc cc:Nat) (sn:List UInt8) (kk yy:Int) (w:World) (hp:BSrc w w.heap.size sp n cap b) (hpn:sp=none→cap=0) (hs:BSrc w w.heap.size sc nc cc sn) (hnc:n≤cap) (hyy:0≤yy∧yy<256) :
 Calls Tryz.prog 6 #[.agg (caA (.slice sp n cap) (.slice sc nc cc) kk yy)] w (MdO kk (b.take 200) w):=by
 have HP0:=zh hp;have HPN:=zh hpn;have HSN:=zh hs;have HC:=zh (heap_alloc_new w (.cells (caA (.slice sp n cap) (.slice sc nc cc) kk yy) 27));clear hp hpn hs
 go_enter Tryz.func6,Tryz.ntmps6
 go_upto_region 1 with fail
 generalize hwz:World.alloc w _=wz;generalize hw0:World.alloc wz _=w0;have HCz:Hid (Ah wz w.heap.size (caA (.slice sp n cap) (.slice sc nc cc) kk yy) 27):=by rw[←hwz];exact HC.out
 have HBz:Hid (Bw w wz):=by rw[←hwz];exact aA _ _
 have hsz:wz.heap.size=w.heap.size+1:=by rw[←hwz];simp
 have HYz:Hid (Ah w0 (w.heap.size+1) zEn 25):=by rw[←hw0,←hsz];exact heap_alloc_new _ _
 have CR:Hid (Bw wz w0):=by rw[←hw0];exact aA _ _
 have hs0:w0.heap.size=w.heap.size+2:=by rw[←hw0,World.size_alloc,hsz]
 have HC0:Hid (Ah w0 w.heap.size (caA (.slice sp n cap) (.slice sc nc cc) kk yy) 27):=(CR.out.block _ zo).trans HCz.out;have HB0:Hid (Bw w w0):=HBz.out.trans (CR.out.mono zo);clear hwz hw0 HC HCz HBz CR hsz;have c0:=ca_p HC0.out;obtain⟨n0,hn1,hn2,hm,hmn⟩:∃ k:Nat,k≤n∧k≤200∧min (n:Int) 200=(k:Int)∧k=min n 200:=⟨min n 200,by omega,by omega,by omega,rfl⟩;have HMN:=zh hmn;clear hmn;have hnc':(n0:Int)≤(cap:Int):=by omega
 have hk0:(0:Int)≤(n0:Int):=by omega
 have HS0:=zh hs0;clear hs0
 go_upto_region 2 with fail
 clear c0 hm hk0;have hs0:=HS0.out;clear HS0;generalize hw3:World.alloc w0 _=w3;obtain⟨g,hg⟩:∃ g,g=w0.heap.size:=⟨_,rfl⟩;obtain⟨D,hD⟩:∃ D,D=g+1:=⟨_,rfl⟩;have hs3:w3.heap.size=D:=by rw[←hw3,World.size_alloc,←hg,hD]
 have HB3:Hid (Bw w0 w3):=by rw[←hw3];exact aA _ _
 have HE3:Hid (Ah w3 g (enA eV (.slice sp n0 cap) aH) 25):=by rw[←hw3,hg];exact heap_alloc_new _ _
 have HM3:Hid (MdS w (caA (.slice sp n cap) (.slice sc nc cc) kk yy) eV (.slice sp n0 cap) aH g D [] w3) :=
  ⟨(HB3.out.block _ zo).trans HC0.out,(HB3.out.block _ zo).trans HYz.out,HE3.out,HB0.out.trans (HB3.out.mono zo),⟨OwnG.nil _ _,fun y hy=>(by cases hy)⟩,by omega⟩
 rw[←hg];have HD1:Hid (w.heap.size+2≤D∧g<D):=⟨by omega,by omega⟩;have HDG:Hid (g≠w.heap.size∧g≠w.heap.size+1∧w.heap.size≤g):=⟨by omega,by omega,by omega⟩;clear hw3 HB3 HE3 HC0 HB0 HYz hs0 hg hD;generalize hCV:caA (.slice sp n cap) (.slice sc nc cc) kk yy=CV at HM3;have HCV:=zh hCV;clear hCV;obtain⟨b0,hb0⟩:∃ b0,b0=b.take n0:=⟨_,rfl⟩;have HPP:Hid (BSrc w w.heap.size sp n0 cap b0):=by
  rw[hb0];exact⟨by rw[List.length_take,HP0.out.len];omega,fun h0=>by
   obtain⟨bb,off,e,h1,h2,h3⟩:=HP0.out.cells zo;exact⟨bb,off,e,h1,by omega,fun j hj=>by
    rw[List.length_take] at hj;rw[List.getElem_take];exact h3 j zo⟩⟩
 have HBB:Hid (b0=b.take 200):=by show _=_;rw[hb0,List.take_eq_take_iff,HMN.out,HP0.out.len];omega
 have HGN:Hid (GdP eV b0 []):=GdP.nil (by rw[HBB.out,List.length_take];omega);clear hb0 HP0 HMN
 go_cut [4] (fun s4 wx=>s4=.int .i64 0∧Hid (MdS w CV eV (.slice sp n0 cap) aH g D [] wx))
 case first =>
  go_wp2_with fail;go_meet;exact⟨rfl,HM3.out⟩
 case rest =>
 obtain⟨rfl,HM4⟩:=hcut;clear HM3
 rename_i hK0
 refine hK0 _ _ ?_;clear hK0
 go_cut [4] (fun _ wx=>∃ (sq:Option Addr) (m cq:Nat) (l:List Sg),Hid (l.length=m∧MkP (l.map pg) 3)∧Hid (MdS w CV eV (.slice sp n0 cap) (.slice sq m cq) g D l wx)∧Hid (GdP eV b0 (l.map pg)))
 case first =>
  as_aux_lemma =>
   go_wp2_with fail
   go_loopw [4] (fun i wr=>∃ (k:Nat) (sq:Option Addr) (m cq:Nat) (l:List Sg),i=.int .i64 k∧k≤nc∧k≤3∧Hid (l.length=m∧MkP (l.map pg) k)∧Hid (MdS w CV eV (.slice sp n0 cap) (.slice sq m cq) g D l wr)∧Hid (GdP eV b0 (l.map pg))) (fun i _=>nc-(intOf i).toNat)
   case atStart=>exact⟨0,none,0,0,[],rfl,Nat.zero_le _,Nat.zero_le _,⟨rfl,Nat.le_refl _,fun z hz=>(by cases hz)⟩,HM4.out,HGN.out⟩
   case round =>
    obtain⟨k,sq,m,cq,l,rfl,hk,hk3,HLL,HM,HGD⟩:=hrel;have cC:wr.cell? ⟨w.heap.size,1,none⟩=some (.slice sc nc cc):=ca_s (by have h:=HM.out.c;rw[←HCV.out] at h;exact h);by_cases hlt:k<nc
    ·have hd:decide ((k:Int)<(nc:Int))=true:=by simp;omega
     by_cases hlt3:k<3
     ·have hd3:decide ((k:Int)<(3:Int))=true:=by simp;omega
      obtain⟨bq,off,rfl,hbB,hcap,hr⟩:=HSN.out.cells zo;have hkl:k<sn.length:=by rw[HSN.out.len];exact hlt
      obtain⟨cb,hcb⟩:∃ cb:Int,cb=(sn[k].toNat:Int):=⟨_,rfl⟩;have hcb0:0≤cb∧cb<256:=by rw[hcb];have:=sn[k].toNat_lt;omega
      obtain⟨B,hBe⟩:∃ B,B=wr.heap.size:=⟨_,rfl⟩;have hDB:D≤B:=by have:=HM.out.k;omega
      have HLT:Hid (w.heap.size<B∧g<B):=⟨by have:=HD1.out;omega,by have:=HD1.out;omega⟩;have HBY:Hid (∀ w',Below B wr w'→w'.cell? ⟨bq,off+k,none⟩=some (.int .u8 cb)):=fun w' hb=>by
       have hbb:=HM.out.b.trans (hb.mono (Nat.le_of_lt HLT.out.1));have h:=(HSN.out.below hbb zl).cells zo;obtain⟨bb,of2,e,_,_,h3⟩:=h;injection e with e;injection e with e1 e2;subst e1 e2
       rw[hcb];exact h3 k hkl
      have HX:=zh (ZT hcb0.1 hcb0.2);obtain⟨hh,hhe⟩:∃ hh:Int,hh=cb % 2:=⟨_,rfl⟩;have hh6:0≤hh∧hh≤1:=by omega
      have hq1:cb.tmod 2=hh:=by rw[hhe,Int.tmod_eq_emod_of_nonneg hcb0.1]
      have RR:Hid (Blks B wr wr []):=Blks.start (Below.refl _ _) (Nat.le_of_eq hBe);obtain⟨V,hV⟩:∃ V,V=qN eV b0 (l.map pg) (hfC cb) hh 0:=⟨_,rfl⟩;have HCS0:Hid (∀ w',Below B wr w'→Calls Tryz.prog 15 #[.agg (enL eV (.slice sp n0 cap) (.slice sq m cq)).toArray,.agg (sgA (hfC cb) hh 0)] w' (SgQ V (.slice sp n0 cap) D w')):=fun w' hb=>by
       have hM:=(show MdS w CV eV (.slice sp n0 cap) (.slice sq m cq) g D l w' from HM.out.below (by rw[←hBe];exact hb) HD1.out.1 HD1.out.2);have h:=FO eV sp n0 cap b0 sq m cq l (hfC cb) hh 0 w' (by decide) ((HPP.out.below hM.b zl).more hM.b.size) HPN.out (hM.g.sgs HLL.out.1) hM.g.o.nilcap HX.out;rw[←hV] at h;exact h.mono fun e w'' hh=>hh.Q hM.k hM.g
      have HVX:Hid (H16 V.x):=by rw[hV];exact ZB HX.out
      have HV0:Hid (V.E=0→V.t=eV∧MkP V.L (k+1)∧GdP eV b0 V.L):=fun h0=>by
       have h1:=ZC (by rw[←hV];exact h0);have h2:xW eV b0 (l.map pg) (hfC cb) hh 0=0:=by rw[←ZD,←hV];exact h0
       rw[←hV] at h1;exact⟨h1.1,by rw[h1.2];exact HLL.out.2.ins zo,by rw[h1.2];exact HGD.out.ins h2⟩
      clear hV hhe hcb hr;obtain⟨VE,VT,b9,VL,VX,VH,VN⟩:=V;have p1:(0:Int)≤(k:Int):=by omega
      have p2:(k:Int)<(nc:Int):=by omega
      have q1:IntKind.i64.wrap (k:Int)=(k:Int):=IntWalk.i64_in _ zo;have q2:IntKind.i64.wrap hh=hh:=IntWalk.i64_in _ zo;have HCS:=HCS0;clear HCS0
      go_upto_region 5 with fail
      go_cut [5,7] (fun s5 s7 wx=>∃ (ga:Nat) (a1:Option Addr) (n1 c1:Nat) (a2:Option Addr) (n2 c2:Nat) (l2:List Sg),s5=.pointer (some ⟨ga,0,none⟩)∧s7=.int .i64 VE∧Hid (wx.heap[ga]? = some (.cells (enA VT (.slice a1 n1 c1) (.slice a2 n2 c2)) 25 (0,0))∧MkC (VE=0) wx D (.slice a2 n2 c2) l2∧(VE=0→Value.slice a1 n1 c1=Value.slice sp n0 cap∧l2.length=n2∧l2.map pg=VL)∧B≤ga∧Below B wr wx))
      case first =>
       try clear HV0
       try clear HPP
       try clear HLL
       try clear hBe
       try clear hDB
       have c9:=zh (HCV.out.symm);obtain⟨CW,rfl⟩:∃ CW,CW=CV:=⟨_,rfl⟩;rw[c9.out] at HM
       as_aux_lemma =>
        exact zT (p:=∀ (a1:Option Addr) (n1:Nat) (c1:Nat) (a2:Option Addr) (n2:Nat) (c2:Nat) (l2:List Sg) (ga:Nat) (gb:Nat) (w:World),_→wpAnyH Tryz.prog _ _ _ _ _ _ _ w) (fun T0=>by
         exact zT (p:=∀ (a1:Option Addr) (n1:Nat) (c1:Nat) (a2:Option Addr) (n2:Nat) (c2:Nat) (l2:List Sg) (ga:Nat) (w:World),_→wpAnyH Tryz.prog _ _ _ _ _ _ _ w) (fun T1=>by
          exact zT (p:=∀ (a1:Option Addr) (n1:Nat) (c1:Nat) (a2:Option Addr) (n2:Nat) (c2:Nat) (l2:List Sg) (gb:Nat) (w:World),_→wpAnyH Tryz.prog _ _ _ _ _ _ _ w) (fun T2=>by
           exact zT (p:=∀ (ga:Nat) (gb:Nat) (w:World),_→wpAnyH Tryz.prog _ _ _ _ _ _ _ w) (fun T3=>by
            refine wp_region_held_drew (S:=fun w'=>Below B wr w') (by kernel_rfl) RR.out.b.drew (fun hHeld=>?_);refine' zk 0 rfl (v:=_) (yieldsIf_load_mid (by rfl) _ _ rfl _ _ rfl _ _ ?hS0n1 Tryz.underlying25 rfl (jK _ _ _)) ?rest0n1
            case hS0n1 =>
             intro w' hSw;exact bC (L:=enL eV (.slice sp n0 cap) (.slice sq m cq)) ((hSw.block _ HLT.out.2).trans HM.out.e)
            try simp only[Act.put,zu]
            refine zv 1 rfl ?_;refine zx 2 rfl (v:=?_) ?_ ?_;rotate_left
            ·intro w' hSw;have c0:=ca_s ((hSw.block _ HLT.out.1).trans HM.out.c);go_simp;try with_reducible rfl
            refine zv 3 rfl ?_;refine zv 4 rfl ?_;refine zx 5 rfl (v:=?_) ?_ ?_;rotate_left
            ·intro w' hSw;have c1:=HBY.out _ hSw;go_simp;try with_reducible rfl
            refine zk 6 rfl (v:=_) (eT (by rfl) 42 [(0,.tmp 36)] rfl [(0,.int .u8 cb)] rfl _ (fun w' _=>WS cb w')) ?rest6n7
            try simp only[Act.put,zu]
            refine zv 7 rfl ?_;refine zx 8 rfl (v:=?_) ?_ ?_;rotate_left
            ·intro w' hSw;have c0:=ca_s ((hSw.block _ HLT.out.1).trans HM.out.c);go_simp;try with_reducible rfl
            refine zv 9 rfl ?_;refine zv 10 rfl ?_;refine zx 11 rfl (v:=?_) ?_ ?_;rotate_left
            ·intro w' hSw;have c1:=HBY.out _ hSw;go_simp;try with_reducible rfl
            refine zv 12 rfl ?_;refine zv 13 rfl ?_;refine zk 14 rfl (v:=_) (eT (by rfl) 52 [(0,.tmp 37),(1,.tmp 44)] rfl [(0,.agg (hvA (hfC cb))),(1,.int .i64 hh)] rfl _ (fun w' _=>RI (hfC cb) hh HX.out w')) ?rest14n15
            try simp only[Act.put,zu]
            refine wpAnyH_ready (rs:=[15,20,21]) (by kernel_rfl) (by simp) (AllReadyH.cons (o:=_) rfl (fun K hK=>?_) (AllReadyH.cons (o:=_) rfl (fun K hK=>?_) (AllReadyH.cons (o:=_) rfl (fun K hK=>?_) AllReadyH.nil)))
            ·go_simp
             with_reducible refine (HCS.out _ (RR.out.drew).b).mono ?_
             rintro e v1 ⟨a1,n1,c1,a2,n2,c2,l2,rfl,hmc,hpr,hb⟩;have cA:=zh (RR.out.call ((Below.refl _ _).drew.trans hb));have aBg:=zh hmc;have HPR:=zh hpr;clear hmc hpr;clear hb;go_wp2_with fail;refine hK.out _ _ cA.out.b fun _=>?_;clear hK K;refine zv 16 rfl ?_;refine zv 17 rfl ?_;refine zv 18 rfl ?_;refine zv 19 rfl ?_;refine zs 20 21 rfl (fun K hK=>?_) rfl (fun K hK=>?_)
             ·obtain⟨ga,v2,hg,hw,bJ,hU⟩:=cA.out.allocd (.cells zEn 25 (0,0));go_simp
              try rw[hg]
              generalize hq:World.alloc v1 _=q;obtain rfl:v2=q:=hw.symm.trans hq;clear hg hw hq;have CQ:=zh (aBg.out.below hU.out);refine hK.out _ _ bJ.out.b fun _=>?_;clear hK K
              try simp only[Act.put,zu]
              exact T1 a1 n1 c1 a2 n2 c2 l2 ga v2 (And.intro (zh (bJ.out)) (And.intro CQ HPR))
             ·obtain⟨gb,v2,hg,hw,bJ,hU⟩:=cA.out.allocd (.cells (sgA bQ 0 0) 52 (0,0));go_simp
              try rw[hg]
              generalize hq:World.alloc v1 _=q;obtain rfl:v2=q:=hw.symm.trans hq;clear hg hw hq;have CQ:=zh (aBg.out.below hU.out);refine hK.out _ _ bJ.out.b fun _=>?_;clear hK K
              try simp only[Act.put,zu]
              exact T2 a1 n1 c1 a2 n2 c2 l2 gb v2 (And.intro (zh (bJ.out)) (And.intro CQ HPR))
            ·obtain⟨ga,v1,hg,hw,cA,qB⟩:=RR.out.allocdD (.cells zEn 25 (0,0));go_simp
             try rw[hg]
             generalize hq:World.drew (World.alloc wr _)=q;obtain rfl:v1=q:=hw.symm.trans hq;clear hg hw hq;refine hK.out _ _ cA.out.b fun _=>?_;clear hK K;refine zs 15 21 rfl (fun K hK=>?_) rfl (fun K hK=>?_)
             ·go_simp
              with_reducible refine (HCS.out _ (cA.out).b).mono ?_
              rintro e v2 ⟨a1,n1,c1,a2,n2,c2,l2,rfl,hmc,hpr,hb⟩;have bJ:=zh (cA.out.call hb);have CQ:=zh hmc;have HPR:=zh hpr;clear hmc hpr;clear hb;go_wp2_with fail;refine hK.out _ _ bJ.out.b fun _=>?_;clear hK K;refine zv 16 rfl ?_;refine zv 17 rfl ?_;refine zv 18 rfl ?_;refine zv 19 rfl ?_
              try simp only[Act.put,zu]
              exact T1 a1 n1 c1 a2 n2 c2 l2 ga v2 (And.intro (zh (bJ.out)) (And.intro CQ HPR))
             ·obtain⟨gb,v2,hg,hw,bJ,hU⟩:=cA.out.allocd (.cells (sgA bQ 0 0) 52 (0,0));go_simp
              try rw[hg]
              generalize hq:World.alloc v1 _=q;obtain rfl:v2=q:=hw.symm.trans hq;clear hg hw hq;refine hK.out _ _ bJ.out.b fun _=>?_;clear hK K
              try simp only[Act.put,zu]
              exact T3 ga gb v2 (zh (bJ.out.p2))
            ·obtain⟨gb,v1,hg,hw,cA,qB⟩:=RR.out.allocdD (.cells (sgA bQ 0 0) 52 (0,0));go_simp
             try rw[hg]
             generalize hq:World.drew (World.alloc wr _)=q;obtain rfl:v1=q:=hw.symm.trans hq;clear hg hw hq;refine hK.out _ _ cA.out.b fun _=>?_;clear hK K;refine zs 15 20 rfl (fun K hK=>?_) rfl (fun K hK=>?_)
             ·go_simp
              with_reducible refine (HCS.out _ (cA.out).b).mono ?_
              rintro e v2 ⟨a1,n1,c1,a2,n2,c2,l2,rfl,hmc,hpr,hb⟩;have bJ:=zh (cA.out.call hb);have CQ:=zh hmc;have HPR:=zh hpr;clear hmc hpr;clear hb;go_wp2_with fail;refine hK.out _ _ bJ.out.b fun _=>?_;clear hK K;refine zv 16 rfl ?_;refine zv 17 rfl ?_;refine zv 18 rfl ?_;refine zv 19 rfl ?_
              try simp only[Act.put,zu]
              exact T2 a1 n1 c1 a2 n2 c2 l2 gb v2 (And.intro (zh (bJ.out)) (And.intro CQ HPR))
             ·obtain⟨ga,v2,hg,hw,bJ,hU⟩:=cA.out.allocd (.cells zEn 25 (0,0));go_simp
              try rw[hg]
              generalize hq:World.alloc v1 _=q;obtain rfl:v2=q:=hw.symm.trans hq;clear hg hw hq;refine hK.out _ _ bJ.out.b fun _=>?_;clear hK K
              try simp only[Act.put,zu]
              exact T3 ga gb v2 (zh (bJ.out))) (by
            intro ga gb u3 HSu3;refine zr 15 rfl (fun K hK=>?_);go_simp
            with_reducible refine (HCS.out _ (HSu3.out).b).mono ?_
            rintro e v1301 ⟨a1,n1,c1,a2,n2,c2,l2,rfl,hmc,hpr,hb⟩;have gM:=zh (HSu3.out.call hb);have RV:=zh hmc;have HPR:=zh hpr;clear hmc hpr;clear hb;go_wp2_with fail;refine hK.out _ _ gM.out.b fun _=>?_;clear hK K;refine zv 16 rfl ?_;refine zv 17 rfl ?_;refine zv 18 rfl ?_;refine zv 19 rfl ?_
            try simp only[Act.put,zu]
            exact T0 a1 n1 c1 a2 n2 c2 l2 ga gb v1301 (And.intro (zh (gM.out)) (And.intro RV HPR)))) (by
           intro a1 n1 c1 a2 n2 c2 l2 gb u2 ⟨HSu2,HMCu2,HPR⟩;refine zr 20 rfl (fun K hK=>?_);obtain⟨ga,v1201,hg,hw,HSv1201,HEv1201⟩:=HSu2.out.allocd (.cells zEn 25 (0,0));go_simp
           try rw[hg]
           generalize hq:World.alloc u2 _=q;obtain rfl:v1201=q:=hw.symm.trans hq;clear hg hw hq;have RW:=zh (HMCu2.out.below HEv1201.out);refine hK.out _ _ HSv1201.out.b fun _=>?_;clear hK K
           try simp only[Act.put,zu]
           exact T0 a1 n1 c1 a2 n2 c2 l2 ga gb v1201 (And.intro (zh (HSv1201.out)) (And.intro RW HPR)))) (by
          intro a1 n1 c1 a2 n2 c2 l2 ga u1 ⟨HSu1,HMCu1,HPR⟩;refine zr 21 rfl (fun K hK=>?_);obtain⟨gb,v1101,hg,hw,HSv1101,HEv1101⟩:=HSu1.out.allocd (.cells (sgA bQ 0 0) 52 (0,0));go_simp
          try rw[hg]
          generalize hq:World.alloc u1 _=q;obtain rfl:v1101=q:=hw.symm.trans hq;clear hg hw hq;have RX:=zh (HMCu1.out.below HEv1101.out);refine hK.out _ _ HSv1101.out.b fun _=>?_;clear hK K
          try simp only[Act.put,zu]
          exact T0 a1 n1 c1 a2 n2 c2 l2 ga gb v1101 (And.intro (zh (HSv1101.out.p2)) (And.intro RX HPR)))) (by
         intro a1 n1 c1 a2 n2 c2 l2 ga gb u0 ⟨HSu0,HMCu0,HPR⟩;refine zr 22 rfl (fun K hK=>?_);rw[if_pos (by rfl)];refine wp_store_row 25 _ _ rfl ga (enA VT (.slice a1 n1 c1) (.slice a2 n2 c2)) rfl rfl 25 _ (HSu0.out.at 0 rfl) (aE _ _ _) rfl (bI _ _ _ _ _ _ _) ?_;generalize hw:World.setRow u0 _ _=v1001;have cJ:=zh (HSu0.out.set 0 rfl (enA VT (.slice a1 n1 c1) (.slice a2 n2 c2)));rw[hw] at cJ;have EY:=zh (HMCu0.out.setRow (HSu0.out.at 0 rfl) (by decide) (enA VT (.slice a1 n1 c1) (.slice a2 n2 c2)));rw[hw] at EY;clear hw;refine hK.out _ _ cJ.out.b fun _=>?_;clear hK K;refine zr 23 rfl (fun K hK=>?_);rw[if_pos (by rfl)];refine wp_store_row 52 _ _ rfl gb (sgA VX VH VN) rfl rfl 52 _ (cJ.out.at 1 rfl) (aV HVX.out) (by rw[dD aN,dD HVX.out]) (dR _ _ _) ?_;generalize hw:World.setRow v1001 _ _=v1002;have bY:=zh (cJ.out.set 1 rfl (sgA VX VH VN));rw[hw] at bY;have EX:=zh (EY.out.setRow (cJ.out.at 1 rfl) (by decide) (sgA VX VH VN));rw[hw] at EX;clear hw;refine hK.out _ _ bY.out.b fun _=>?_;clear hK K;refine zv 24 rfl ?_;refine zd ?_ _;go_wp2_with fail;go_meet;exact⟨ga,a1,n1,c1,a2,n2,c2,l2,rfl,rfl,bY.out.at 0 rfl,EX.out,HPR.out,(bY.out.lt 0 rfl).1,bY.out.b⟩)
      case rest =>
       obtain⟨ga,a1,n1,c1,a2,n2,c2,l2,rfl,rfl,HQ⟩:=hcut;have HGA:=zh HQ.out.1;have HMC:=zh HQ.out.2.1;have HPR:=zh HQ.out.2.2.1;have hga:=HQ.out.2.2.2.1;have HMc:=zh (HM.out.below (by rw[←hBe];exact HQ.out.2.2.2.2) HD1.out.1 HD1.out.2);clear HQ HCS;by_cases hE:VE=0
       ·subst hE;obtain⟨rfl,hmp,hgd⟩:=HV0.out rfl;have hpr:=HPR.out rfl;have hmg:=HMC.out.g rfl;injection hpr.1 with e1 e2 e3
        subst e1 e2 e3;have hne:ga≠g:=by have:=HLT.out;omega
        have hgw:g≠w.heap.size∧g≠w.heap.size+1∧w.heap.size≤g:=HDG.out
        go_wp2_with (first
         | (refine wpList_load_row rfl  25 _ rfl ga rfl  25 _ (0,0) _ HGA.out Tryz.underlying25 rfl (aE _ _ _) ?_)
         | (refine wpList_store_row rfl  25 _ _ rfl g (enA eV (.slice a1 n1 c1) (.slice a2 n2 c2)) rfl rfl  25 _ HMc.out.e (aE _ _ _) rfl (bI _ _ _ _ _ _ _) ?_;generalize hw8:World.setRow wc _ _=w8;have HM8:Hid (MdS w CV eV (.slice a1 n1 c1) (.slice a2 n2 c2) g D l2 w8):=(by rw[←hw8];exact⟨(setRow_other _ _ _ _ (Ne.symm hgw.1)).trans HMc.out.c,(setRow_other _ _ _ _ (Ne.symm hgw.2.1)).trans HMc.out.y,setRow_heap _ _ _ _ _ _ HMc.out.e,below_setRow HMc.out.b hgw.2.2 _,hmg.setRow HMc.out.e (by decide) _,by rw[setRow_size];exact HMc.out.k⟩);clear hw8))
        go_roundw
        case rel=>exact⟨k+1,a2,n2,c2,l2,by go_num,by omega,by omega,⟨hpr.2.1,by rw[hpr.2.2];exact hmp⟩,HM8.out,by rw[hpr.2.2];exact hgd⟩
        case measure=>simp[intOf];omega
       ·have hq:(VE == 0)=false:=by simpa using hE
        go_wp2_with fail;go_roundw
        case rel=>exact⟨k+1,sq,m,cq,l,by go_num,by omega,by omega,⟨HLL.out.1,by have:=HLL.out.2.1;omega,HLL.out.2.2⟩,HMc.out,HGD.out⟩
        case measure=>simp[intOf];omega
     ·have hd3:decide ((k:Int)<(3:Int))=false:=by simp;omega
      go_wp2_with fail;go_meet;exact⟨sq,m,cq,l,⟨HLL.out.1,by have:=HLL.out.2.1;omega,HLL.out.2.2⟩,HM.out,HGD.out⟩
    ·have hd:decide ((k:Int)<(nc:Int))=false:=by simp;omega
     go_wp2_with fail;go_meet;exact⟨sq,m,cq,l,⟨HLL.out.1,by have:=HLL.out.2.1;omega,HLL.out.2.2⟩,HM.out,HGD.out⟩
 case rest =>
  obtain⟨sq,m,cq,l,HLL,HM,HGD⟩:=hcut;clear HM4;have hm3:m≤3:=by have h:=HLL.out.2.1;rw[List.length_map] at h;have:=HLL.out.1;omega
  have hgw:g≠w.heap.size∧g≠w.heap.size+1∧w.heap.size≤g:=HDG.out;have cS:=iW HM.out.e;have HPF:Hid (∀ w',Below w.heap.size w w'→BSrc w' w'.heap.size sp n0 cap b0):=fun w' hb=>(HPP.out.below hb zl).more hb.size;by_cases hm0:m=0
  ·have hq:((m:Int) == 0)=true:=by rw[hm0];rfl
   go_wp2_with (first
    | (refine wpList_load_row rfl 25 _ rfl g rfl 25 _ (0,0) _ HM.out.e Tryz.underlying25 rfl (aE _ _ _) ?_)
    | (refine wpList_store_row rfl 25 _ _ rfl (w.heap.size+1) (enA eV (.slice sp n0 cap) (.slice sq m cq)) rfl rfl 25 _ HM.out.y (aE _ _ _) rfl (bI _ _ _ _ _ _ _) ?_;generalize hw8:World.setRow wc _ _=w8;have HY8:Hid (Ah w8 (w.heap.size+1) (enA eV (.slice sp n0 cap) (.slice sq m cq)) 25):=(by rw[←hw8];exact setRow_heap _ _ _ _ _ _ HM.out.y);have HB8:Hid (Bw w w8):=(by rw[←hw8];exact below_setRow HM.out.b (Nat.le_succ _) _);have HG8:Hid (MkG w8 D (.slice sq m cq) l):=(by rw[←hw8];exact HM.out.g.setRow HM.out.y (by decide) _);clear hw8))
   exact bodyPost_ret (results_cell_row (P:=Tryz.prog) rfl _ _ (w.heap.size+1) 25 _ (0,0) _ rfl HY8.out Tryz.underlying25 rfl (aE _ _ _)) rfl (MdO.of (by decide) (HPF.out _ HB8.out) HPN.out HG8.out HLL.out.1 zo HLL.out.2 HB8.out (fun _=>⟨rfl,HBB.out,HBB.out ▸ HGD.out⟩) (fun _=>⟨rfl,HBB.out,HBB.out ▸ HGD.out.v⟩))
  ·have hq:((m:Int) == 0)=false:=by simp;omega
   obtain⟨CW,rfl⟩:∃ CW,CW=CV:=⟨_,rfl⟩;have HCC:Hid (wc.heap[w.heap.size]? = some (.cells (caA (.slice sp n cap) (.slice sc nc cc) kk yy) 27 (0,0))):=by have h:=HM.out.c;rw[←HCV.out] at h;exact h
   have cY:=ca_y HCC.out;have cK:=ca_k HCC.out;obtain⟨kx,hkx,hkm⟩:∃ kx:Nat,yy.tmod (m:Int)=(kx:Int)∧kx<m:=by
    rw[Int.tmod_eq_emod_of_nonneg hyy.1];have h1:=Int.emod_nonneg yy (show (m:Int)≠0 by omega);have h2:=Int.emod_lt_of_pos yy (show (0:Int)<(m:Int) by omega);exact⟨(yy % (m:Int)).toNat,by omega,by omega⟩
   have q1:IntKind.i64.wrap yy=yy:=IntWalk.i64_in _ zo;have q2:IntKind.i64.wrap (kx:Int)=(kx:Int):=IntWalk.i64_in _ zo;have hmz:(m:Int)≠0:=by omega
   have HRB:=zh (fun w:World=>(show (Instr.buildSlice 23 0 #[]).run Tryz.prog w=.ok (.slice (some ⟨w.heap.size,0,none⟩) 0 0) (w.alloc (.cells #[] 50)) by kernel_rfl))
   go_upto_region 13 with (first
    | (refine dZ rfl 23 50 rfl HRB.out ?_;intro v1 w1 hv1 hw1;have hb1:Below wc.heap.size wc w1:=(by rw[hw1.out];exact aA _ _);have HO1:Hid (OwnG w1 wc.heap.size v1 []):=(by rw[hv1.out,hw1.out];exact⟨World.ownsRow_made wc #[] 0 zl (by unfold maxLen;omega) rfl,by simp⟩);have HM1:=zh (HM.out.below hb1 HD1.out.1 HD1.out.2);have cS1:=iW HM1.out.e;have hs01:=hb1.size)
    | (at_builtin;refine qE rfl (.tmp 64) (.tmp 66) rfl wc.heap.size _ [] 0 rfl rfl HO1.out sq m cq w1.heap.size l rfl (HM1.out.g.sgs HLL.out.1) HM1.out.g.o.nilcap zo hs01 ?_;intro sp2 cap2 w2 HO2 HB2 HG2;rw[Nat.zero_add,List.nil_append] at HO2;rw[Nat.zero_add];have HM2:=zh (HM.out.below (hb1.trans HB2.out) HD1.out.1 HD1.out.2);have cS2:=iW HM2.out.e;have fS2:=frozen_of_row _ _ 2 _ _ HM2.out.e))
   have HM3:Hid (MdS w CW eV (.slice sp n0 cap) (.slice sp2 m cap2) g D l (w2.setCell ⟨g,2,none⟩ (.slice sp2 m cap2))):=HM2.out.setAny 2 _ (uC _ _ _ _) ⟨HO2.out.base HM.out.k,HM2.out.g.t⟩ HDG.out;clear cS cS1 cS2 fS2 HM2 HO2 HG2 HM1 HO1 hb1 hv1 hw1 cY cK;generalize World.setCell w2 _ _=w3 at *;obtain⟨r1,hr1,hr2⟩:∃ r1:Int,kk.tmod 6=r1 ∧ -6<r1∧r1<6:=⟨kk.tmod 6,rfl,tm6 kk⟩;have HZ0:Hid (spz kk=(r1+6).tmod 6):=by show _=_;unfold spz;rw[hr1]
   obtain⟨zz,hz1,hz2⟩:∃ zz:Int,(r1+6).tmod 6=zz∧0≤zz∧zz<6:=⟨(r1+6).tmod 6,rfl,by rw[Int.tmod_eq_emod_of_nonneg zo];omega,(tm6 _).2⟩;have q3:IntKind.i64.wrap r1=r1:=IntWalk.i64_in _ zo;have q4:IntKind.i64.wrap (r1+6)=r1+6:=IntWalk.i64_in _ zo;have q5:IntKind.i64.wrap zz=zz:=IntWalk.i64_in _ zo;have HC3:Hid (w3.heap[w.heap.size]? = some (.cells (caA (.slice sp n cap) (.slice sc nc cc) kk yy) 27 (0,0))):=by have h:=HM3.out.c;rw[←HCV.out] at h;exact h
   have cK:=ca_k HC3.out
   go_cut [73] (fun s73 wx=>s73=.int .i64 zz∧w3=wx)
   case first =>
    go_wp2_with fail;go_meet;exact⟨rfl,rfl⟩
   case rest =>
   obtain⟨rfl,e1⟩:=hcut;subst e1;have hK0:=‹∀ (a:Act) (w:World),Code.wp _ _ _ a w→_›;refine hK0 _ _ ?_;clear hK0;have HZZ:=zh (HZ0.out.trans hz1);clear HZ0;clear hr1 hz1 q3 q4 cK;have HM:=HM3;clear HM3;have hz:zz=0∨zz=1∨zz=2∨zz=3∨zz=4∨zz=5:=by omega
   go_cut [9] (fun _ wx=>∃ (t9:ByteArray) (a1:Option Addr) (n1 c1:Nat) (a2:Option Addr) (n2 c2:Nat) (b9:List UInt8) (l9:List Sg),Hid (MdS w CW t9 (.slice a1 n1 c1) (.slice a2 n2 c2) g D l9 wx)∧Hid ((∀ cs,BSrc (wx.setRow (w.heap.size+1) cs) wx.heap.size a1 n1 c1 b9)∧(a1=none→c1=0)∧t9.size≤300∧n1≤201)∧Hid (l9.length=n2∧MkP (l9.map pg) 3)∧Hid ((spz kk=0→t9=eV∧b9=b.take 200∧GdP eV (b.take 200) (l9.map pg))∧(spz kk=1→t9=eV∧b9=b.take 200∧fM eV (b.take 200) (l9.map pg)=true)))
   case first =>
    have HPG:Hid (∀ wx,Below w.heap.size w wx→∀ cs,BSrc (wx.setRow (w.heap.size+1) cs) wx.heap.size sp n0 cap b0):=fun wx hb cs=>by have h:=HPF.out _ (below_setRow hb (Nat.le_succ w.heap.size) cs);rwa [setRow_size] at h
    rcases hz with rfl | rfl | rfl | rfl | rfl | rfl
    ·-- 0
     go_wp2_with fail;go_meet;exact⟨eV,sp,n0,cap,sp2,m,cap2,b0,l,HM.out,⟨(HPG.out _ HM.out.b),HPN.out,by decide,by omega⟩,⟨HLL.out.1,HLL.out.2⟩,(fun _=>⟨rfl,HBB.out,HBB.out ▸ HGD.out⟩),(fun h=>absurd (HZZ.out.symm.trans h) (by decide))⟩
    ·-- 1
     obtain⟨gS,hsp2⟩:∃ gS,sp2=some ⟨gS,0,none⟩:=by
      obtain⟨bb,off,e,_⟩:=(HM.out.g.sgs HLL.out.1).cells zo;have h:=HM.out.g.o.1;obtain⟨_,⟨e2,_⟩ | ⟨gg,c9,cur,e2,_⟩⟩:=h
      ·rw[e] at e2;cases e2
      ·injection e2 with e2 _ _;exact⟨gg,e2⟩
     subst hsp2;have hkl:kx<l.length:=by have:=HLL.out.1;omega
     obtain⟨x,hx⟩:∃ x,l[kx]? = some x:=⟨l[kx],List.getElem?_eq_getElem hkl⟩;have HXX:=zh hx;have HSX:=zh (HM.out.g.t x (List.mem_of_getElem? hx));have HX2:=zh (HLL.out.2.2 (pg x) (List.mem_map.2 ⟨x,List.mem_of_getElem? hx,rfl⟩));have h68:x.l.length=68:=HX2.out.1;have hxn:x.n=68:=by rw[←HSX.out.cl];exact h68
     have HRS:=zh (yD (HM.out.g.rng HLL.out.1 hx) HSX.out.r);have HXN:=zh hxn;clear h68 hxn;have HIS:=zh (oS x);have HZS:=zh (heap_alloc_new w3 (.cells (siA 0 aH aH) 48));have p1:(0:Int)≤(kx:Int):=by omega
     have p2:(kx:Int)<(m:Int):=by omega
     have cS3:=iW HM.out.e;clear hx
     go_upto_region 16 with (first
      | (refine wpList_load_mid rfl 48 _ rfl gS (kx*20+17) rfl _ _ HRS.out Tryz.underlying48 rfl HIS.out ?_)
      | (refine wpList_store_row rfl 48 _ _ rfl w3.heap.size (siA x.a (.slice x.sp x.n x.c) (.slice x.sq x.m x.d)) rfl rfl 48 _ HZS.out (aL _ _ _) rfl (cO _ _ _ _ _ _ _) ?_;rw[aK];generalize hw4:World.alloc w3 _=w4;have HT4:Hid (w4.heap[w3.heap.size]? = some (.cells (siA x.a (.slice x.sp x.n x.c) (.slice x.sq x.m x.d)) 48 (0,0))):=(by rw[←hw4];exact heap_alloc_new _ _);have HB4:Hid (Below w3.heap.size w3 w4):=(by rw[←hw4];exact aA _ _);have hs4:w4.heap.size=w3.heap.size+1:=(by rw[←hw4];simp);clear hw4 HZS))
     obtain⟨gT,hgT⟩:∃ gT,gT=w3.heap.size:=⟨_,rfl⟩;have HT4':Hid (w4.heap[gT]? = some (.cells (siA x.a (.slice x.sp x.n x.c) (.slice x.sq x.m x.d)) 48 (0,0))):=by rw[hgT];exact HT4.out
     rw[←hgT];have HS4:Hid (w4.heap.size=gT+1):=by show _=_;omega
     have HS3:Hid (w3.heap.size=gT):=hgT.symm;clear HT4 cS3 hgT hs4;have cT:w4.cell? ⟨gT,1,none⟩=some (.slice x.sp x.n x.c):=aG (L:=siL x.a (.slice x.sp x.n x.c) (.slice x.sq x.m x.d)) HT4'.out rfl;have HSR4:=zh ((HSX.out.below HB4.out).c.hvs HSX.out.cl);obtain⟨ad,had⟩:∃ ad,x.sp=some ad:=by
      obtain⟨bb,off,e,_⟩:=HSR4.out.cells (by rw[HXN.out];omega);exact⟨_,e⟩
     have HRH:=zh (fun w:World=>(show (Instr.buildSlice 46 0 #[]).run Tryz.prog w=.ok (.slice (some ⟨w.heap.size,0,none⟩) 0 0) (w.alloc (.cells #[] 42)) by kernel_rfl));rw[had] at cT HSR4;have HAD:=zh had;have HXB:Hid (0+x.n≤1000000):=by show _≤_;rw[HXN.out];omega
     clear had
     go_upto_region 17 with (first
      | (refine dZ rfl 46 42 rfl HRH.out ?_;intro v1 w1 hv1 hw1;have hb1:Below w4.heap.size w4 w1:=(by rw[hw1.out];exact aA _ _);have HO1:Hid (OwnHv w1 w4.heap.size v1 []):=(by rw[hv1.out,hw1.out];exact⟨World.ownsRow_made w4 #[] 0 zl (by unfold maxLen;omega) rfl,by simp⟩);have hs01:=hb1.size;have HSR:=zh (HSR4.out.below hb1 zl);have HT1:Hid (w1.heap[gT]? = some (.cells (siA x.a (.slice x.sp x.n x.c) (.slice x.sq x.m x.d)) 48 (0,0))):=((hb1.block _ (by have:=HS4.out;omega)).trans HT4'.out);have cT1:w1.cell? ⟨gT,1,none⟩=some (.slice (some ad) x.n x.c):=(by rw[←HAD.out];exact aG (L:=siL x.a (.slice x.sp x.n x.c) (.slice x.sq x.m x.d)) HT1.out rfl))
      | (at_builtin;refine iL rfl (.tmp 82) (.tmp 84) rfl w4.heap.size _ [] 0 rfl rfl HO1.out ad x.n x.c _ x.l rfl HSR.out HXB.out hs01 ?_;intro spC cc2 w5 HO5 HB5 HG5;rw[Nat.zero_add,List.nil_append] at HO5;rw[Nat.zero_add];have HT5:Hid (w5.heap[gT]? = some (.cells (siA x.a (.slice x.sp x.n x.c) (.slice x.sq x.m x.d)) 48 (0,0))):=((HB5.out.block _ (by have:=HS4.out;omega)).trans HT1.out);have cT5:w5.cell? ⟨gT,1,none⟩=some (.slice (some ad) x.n x.c):=(by rw[←HAD.out];exact aG (L:=siL x.a (.slice x.sp x.n x.c) (.slice x.sq x.m x.d)) HT5.out rfl);have fT5:=frozen_of_row _ _ 1 _ _ HT5.out))
     have HSW:Hid (w5.setCell ⟨gT,1,none⟩ (.slice spC x.n cc2)=w5.setCell ⟨gT,1,none⟩ (.slice spC x.n cc2)):=rfl;have HT6:Hid ((w5.setCell ⟨gT,1,none⟩ (.slice spC x.n cc2)).heap[gT]? = some (.cells (siA x.a (.slice spC x.n cc2) (.slice x.sq x.m x.d)) 48 (0,0))):=by
      have h:=heap_setCell_same w5 gT 1 _ _ (.slice spC x.n cc2) HT5.out;rw[UG] at h;exact h
     have HO6:Hid (OwnHv (w5.setCell ⟨gT,1,none⟩ (.slice spC x.n cc2)) w4.heap.size (.slice spC x.n cc2) x.l):=HO5.out.setCell HT5.out iD 1 _;have HB6:Hid (Below w3.heap.size w3 (w5.setCell ⟨gT,1,none⟩ (.slice spC x.n cc2))):=((HB4.out.trans (hb1.mono (by have:=HS4.out;have:=HS3.out;omega))).trans (HB5.out.mono (by have:=HS4.out;have:=HS3.out;omega))).setCell (p:=⟨gT,1,none⟩) (Nat.le_of_eq HS3.out) _;clear HSW cT5 fT5 cT1 hb1 HO1 HT1 HSR HSR4 HO5 HB5 HG5 HT5 HT4' cT hs01;generalize World.setCell w5 _ _=w6 at *;obtain⟨gC,hgC⟩:∃ gC,spC=some ⟨gC,0,none⟩:=by
      have h:=HO6.out.1;obtain⟨_,⟨e2,e3⟩ | ⟨gg,c9,cur,e2,_⟩⟩:=h
      ·injection e2 with _ e4 _;have:=HXN.out;omega
      ·injection e2 with e2 _ _;exact⟨gg,e2⟩
     subst hgC;obtain⟨dd,tt,hdt⟩:∃ dd tt,x.l=dd :: tt:=by
      have h68:x.l.length=68:=HX2.out.1
      cases hxl:x.l with
      | nil=>rw[hxl] at h68;simp at h68
      | cons dd tt=>exact⟨dd,tt,rfl⟩
     have HDT:=zh hdt;rw[hdt] at HO6;clear hdt;have HLD:Hid ((dd :: tt).length=x.n):=by show _=_;rw[←HDT.out,HXN.out];exact HX2.out.1
     have HM6:=zh (HM.out.below HB6.out HD1.out.1 HD1.out.2);have HC6:Hid (w6.heap[w.heap.size]? = some (.cells (caA (.slice sp n cap) (.slice sc nc cc) kk yy) 27 (0,0))):=by have h:=HM6.out.c;rw[←HCV.out] at h;exact h
     obtain⟨bv,hbv⟩:∃ bv,bv=dd.getD 0 0:=⟨_,rfl⟩;have cB:w6.cell? ⟨gC,0,none⟩=some (.int .u8 bv):=by
      obtain⟨bb,off,e,_,_,hrr⟩:=(HO6.out.hvs HLD.out).cells (by rw[HXN.out];omega);injection e with e;injection e with e1 e2;subst e1 e2
      have hd:=(HO6.out.2 dd (by simp)).1;have h:=hrr 0 (by rw[HXN.out];omega) 0 (.int .u8 (dd.getD 0 0)) (by
       show (dd.map (Value.int .u8))[0]? = _;rw[List.getElem?_map,List.getD_eq_getElem?_getD,List.getElem?_eq_getElem zo];rfl)
      rw[hbv];exact h
     have fB:w6.frozen? ⟨gC,0,none⟩=false:=by have h:=HO6.out.1;rw[HLD.out] at h;exact World.ownsRow.frozenAt h _
     have p4:0<x.n:=by rw[HXN.out];omega
     clear hbv;refine wp_region_held_drew (S:=fun w'=>w'.heap[gT]? = some (.cells (siA x.a (.slice (some ⟨gC,0,none⟩) x.n cc2) (.slice x.sq x.m x.d)) 48 (0,0))∧w'.heap[w.heap.size]? = some (.cells (caA (.slice sp n cap) (.slice sc nc cc) kk yy) 27 (0,0))) (by kernel_rfl) ⟨HT6.out,HC6.out⟩ (fun hHeld=>?_);refine zv 0 rfl ?_;refine zx 1 rfl (v:=?_) ?_ ?_;rotate_left
     ·intro w' hSw;have c2:=sP hSw.1;go_simp;try with_reducible rfl
     refine zv 2 rfl ?_;refine zv 3 rfl ?_;refine zv 5 rfl ?_;refine zx 6 rfl (v:=?_) ?_ ?_;rotate_left
     ·intro w' hSw;have c3:=ca_y hSw.2;go_simp;try with_reducible rfl
     refine zv 8 rfl ?_;refine zr 4 rfl (fun K hK=>?_);rw[if_pos (by rfl)];go_simp;refine hK.out _ _ ⟨HT6.out,HC6.out⟩ fun _=>?_;clear hK K
     try simp only[Act.put,zu]
     refine zv 7 rfl ?_;refine zv 9 rfl ?_;refine zr 10 rfl (fun K hK=>?_);rw[if_pos (by rfl)];go_simp;obtain⟨zb,hzb⟩:∃ zb,zb=bits .xor .u8 bv yy:=⟨_,rfl⟩;have hzz:0≤zb∧zb<256:=by rw[hzb];exact uQ _ _
     rw[←hzb];have HZX:=zh hzz;clear hzb hzz;have hgC:w4.heap.size≤gC:=bO HO6.out.1 gC rfl;have HGT:Hid (gT<gC∧w3.heap.size≤gC∧D≤w4.heap.size):=⟨by have:=HS4.out;omega,by have:=HS4.out;have:=HS3.out;omega,by have:=HS4.out;have:=HS3.out;have:=HM.out.k;omega⟩;have HO7:=zh ((HO6.out.poke0 HLD.out zb HZX.out).below ((Below.refl _ _).drew));have HT7:Hid ((World.drew (World.setCell w6 ⟨gC,0,none⟩ (.int .u8 zb))).heap[gT]? = some (.cells (siA x.a (.slice (some ⟨gC,0,none⟩) x.n cc2) (.slice x.sq x.m x.d)) 48 (0,0))):=(show (World.setCell w6 ⟨gC,0,none⟩ (.int .u8 zb)).heap[gT]? = _ from (heap_setCell_other w6 ⟨gC,0,none⟩ gT _ (show gT≠gC by have:=HGT.out.1;omega)).trans HT6.out);have HM7:Hid (MdS w CW eV (.slice sp n0 cap) (.slice (some ⟨gS,0,none⟩) m cap2) g D l (World.drew (World.setCell w6 ⟨gC,0,none⟩ (.int .u8 zb)))):=HM.out.below ((HB6.out.setCell (p:=⟨gC,0,none⟩) HGT.out.2.1 _).drew) HD1.out.1 HD1.out.2;have HC7:Hid ((World.drew (World.setCell w6 ⟨gC,0,none⟩ (.int .u8 zb))).heap[w.heap.size]? = some (.cells (caA (.slice sp n cap) (.slice sc nc cc) kk yy) 27 (0,0))):=by have h:=HM7.out.c;rw[←HCV.out] at h;exact h
     refine hK.out _ _ ⟨HT7.out,HC7.out⟩ (fun hHeld=>?_);clear hK K hHeld
     try simp only[Act.put,zu]
     refine zd ?_ _;clear cB fB HM HC3 HM6 HC6 HO6 HT6 HC7;generalize World.drew (World.setCell w6 _ _)=w7 at *;have HTR:Hid (w7.there gS (kx*20+17) 3):=fun j hj=>(by have h:=HM7.out.g.there HLL.out.1 HXX.out (17+j) zo;rwa [←Nat.add_assoc] at h);have HL7:Hid ((dd.set 0 zb :: tt).length=x.l.length):=by show _=_;rw[HDT.out];rfl
     have HTX:Hid (SgT w7 D (WO x (some ⟨gC,0,none⟩) cc2 (dd.set 0 zb :: tt))):=⟨HSX.out.r,HO7.out.base HGT.out.2.2,(HM7.out.g.t x (List.mem_of_getElem? HXX.out)).p,HL7.out.trans HSX.out.cl,HSX.out.pl⟩;have HM8:Hid (MdS w CW eV (.slice sp n0 cap) (.slice (some ⟨gS,0,none⟩) m cap2) g D (l.set kx (WO x (some ⟨gC,0,none⟩) cc2 (dd.set 0 zb :: tt))) (w7.setCells gS (kx*20+17) (siL x.a (.slice (some ⟨gC,0,none⟩) x.n cc2) (.slice x.sq x.m x.d)))):=HM7.out.setGs _ _ (HM7.out.g.setV HLL.out.1 HXX.out HTX.out.r HTX.out rfl) HD1.out.1 HD1.out.2;have HMP:Hid (MkP ((l.set kx (WO x (some ⟨gC,0,none⟩) cc2 (dd.set 0 zb :: tt))).map pg) 3):=HLL.out.2.set (HL7.out.trans HX2.out.1) HX2.out.2;have HLN:Hid ((l.set kx (WO x (some ⟨gC,0,none⟩) cc2 (dd.set 0 zb :: tt))).length=m):=by show _=_;rw[List.length_set];exact HLL.out.1
     have HVL:Hid (fM eV b0 ((l.set kx (WO x (some ⟨gC,0,none⟩) cc2 (dd.set 0 zb :: tt))).map pg)=true):=WN HXX.out HL7.out HGD.out.v;have cS7:=iW HM7.out.e;have HIS7:=zh (aL x.a (.slice (some ⟨gC,0,none⟩) x.n cc2) (.slice x.sq x.m x.d));generalize l.set kx (WO x (some ⟨gC,0,none⟩) cc2 (dd.set 0 zb :: tt))=l4 at *;clear HO7 HTX HL7 HDT HLD HX2 HSX HXX HZX
     go_wp2_with (first
      | (refine wpList_load_row rfl 48 _ rfl gT rfl 48 _ (0,0) _ HT7.out Tryz.underlying48 rfl HIS7.out ?_)
      | (refine wpList_store_mid rfl 48 _ _ rfl gS (kx*20+17) (siA x.a (.slice (some ⟨gC,0,none⟩) x.n cc2) (.slice x.sq x.m x.d)) rfl rfl HTR.out HIS7.out (cO _ _ _ _ _ _ _) ?_;generalize hw8:World.setCells w7 _ _ _=w8;have HM9:Hid (MdS w CW eV (.slice sp n0 cap) (.slice (some ⟨gS,0,none⟩) m cap2) g D l4 w8):=(by rw[←hw8];exact HM8.out);clear hw8 HM8))
     go_meet;exact⟨eV,sp,n0,cap,(some ⟨gS,0,none⟩),m,cap2,b0,l4,HM9.out,⟨(HPG.out _ HM9.out.b),HPN.out,by decide,by omega⟩,⟨HLN.out,HMP.out⟩,(fun h=>absurd (HZZ.out.symm.trans h) (by decide)),(fun _=>⟨rfl,HBB.out,HBB.out ▸ HVL.out⟩)⟩
    ·-- 2
     obtain⟨y8,hy8⟩:∃ y8:UInt8,yy=(y8.toNat:Int):=⟨UInt8.ofNat yy.toNat,by rw[UInt8.toNat_ofNat'];omega⟩;have HYE:=zh hy8;have HCD:Hid (w3.heap[w.heap.size]? = some (.cells (caA (.slice sp n cap) (.slice sc nc cc) kk (y8.toNat:Int)) 27 (0,0))):=by show _=_;rw[←hy8];exact HC3.out
     have HCVY:Hid (caA (.slice sp n cap) (.slice sc nc cc) kk (y8.toNat:Int)=CW):=by show _=_;rw[←hy8];exact HCV.out
     clear hy8;have HMD:=zh (HM.out.drew HD1.out.1 HD1.out.2);have HRY:=zh (fun w:World=>(show (Instr.buildSlice 22 0 #[]).run Tryz.prog w=.ok (.slice (some ⟨w.heap.size,0,none⟩) 0 0) (w.alloc (.cells #[] 5)) by kernel_rfl));have HRN:=zh (fun w:World=>(show (Instr.buildSlice 22 1 #[(0,.int .u8 (y8.toNat:Int))]).run Tryz.prog w=.ok (.slice (some ⟨w.heap.size,0,none⟩) 1 1) (w.alloc (.cells #[.int .u8 (y8.toNat:Int)] 5)) by kernel_rfl));have HBL:Hid (b0.length=n0):=(HPF.out _ HM.out.b).len
     go_upto_region 20 with fail
     as_aux_lemma =>
      refine wp_region_held_drew (S:=fun w'=>w'.heap[w.heap.size]? = some (.cells (caA (.slice sp n cap) (.slice sc nc cc) kk (y8.toNat:Int)) 27 (0,0))) (by kernel_rfl) HCD.out (fun hHeld=>?_);refine zv 1 rfl ?_;refine zv 4 rfl ?_;refine zx 5 rfl (v:=?_) ?_ ?_;rotate_left
      ·intro w' hSw;have c3:=ca_y hSw;go_simp;try with_reducible rfl
      obtain⟨wd,hwd⟩:∃ wd,wd=w3.drew:=⟨_,rfl⟩;obtain⟨B,hBe⟩:∃ B,B=wd.heap.size:=⟨_,rfl⟩;rw[←hwd] at HMD;have HSB:Hid (∀ v,Below B wd v→MdS w CW eV (.slice sp n0 cap) (.slice sp2 m cap2) g D l v):=fun v hb=>HMD.out.below (by rw[←hBe];exact hb) HD1.out.1 HD1.out.2;have TK:Hid (Blks B wd wd []):=Blks.start (Below.refl _ _) (Nat.le_of_eq hBe);have HDB:Hid (D≤B):=by have:=HMD.out.k;show _≤_;omega
      clear hBe HMD HCD HM HC3 HCV;have HCV:=HCVY;clear HCVY;rw[←hwd] at *;clear hwd;refine wpAnyH_ready (rs:=[0,2,6]) (by kernel_rfl) (by simp) (AllReadyH.cons (o:=_) rfl (fun K hK=>?_) (AllReadyH.cons (o:=_) rfl (fun K hK=>?_) (AllReadyH.cons (o:=_) rfl (fun K hK=>?_) AllReadyH.nil)))
      ·rw[if_pos (by rfl)];refine aZ 22 0 [] rfl [] rfl _ _ (HRY.out _) ?_;have YL:=(show OwnBy (wd.alloc (.cells #[] 5)) B (.slice (some ⟨wd.heap.size,0,none⟩) 0 0) [] from World.ownsRow_made wd #[] 0 TK.out.k (by unfold maxLen;omega) rfl);obtain⟨gA,y1,hg,hw,HSy1,HEy1⟩:=TK.out.allocd (.cells #[] 5);rw[hw,hg] at YL;go_simp
       try rw[hg]
       generalize hq:World.alloc wd _=q;obtain rfl:y1=q:=hw.symm.trans hq;clear hg hw hq;have YL:=zh YL;refine hK.out _ _ (show _ from by have h:=(HSB.out _ HSy1.out.b).c;rw[←HCV.out] at h;exact h) (fun hHeld=>?_);clear hK K
       try simp only[Act.put,zu]
       refine zs 2 6 rfl (fun K hK=>?_) rfl (fun K hK=>?_)
       ·rw[if_pos (by rfl)];have cP:=qU (HSB.out _ HSy1.out.b).e;go_simp;refine hK.out _ _ (show _ from by have h:=(HSB.out _ HSy1.out.b).c;rw[←HCV.out] at h;exact h) (fun hHeld=>?_);clear hK K
        try simp only[Act.put,zu]
        clear cP;refine zs 3 6 rfl (fun K hK=>?_) rfl (fun K hK=>?_)
        ·rw[if_pos (by rfl)];refine bE (.tmp 105) (.tmp 107) rfl B _ [] 0 rfl rfl YL.out sp n0 cap y1.heap.size b0 rfl (HPF.out _ (HSB.out _ HSy1.out.b).b) HPN.out zo HSy1.out.k ?_;intro sp6 cap6 y3 wK HBy3 HGy3;rw[Nat.zero_add,List.nil_append] at wK;rw[Nat.zero_add];have iZ:Hid (Blks B wd y3 []):=Blks.start (HSy1.out.b.trans HBy3.out) (Nat.le_trans HSy1.out.k HBy3.out.size);clear HGy3;refine hK.out _ _ (show _ from by have h:=(HSB.out _ iZ.out.b).c;rw[←HCV.out] at h;exact h) (fun hHeld=>?_);clear hK K
         try simp only[Act.put,zu]
         refine zr 6 rfl (fun K hK=>?_)
         ·rw[if_pos (by rfl)];refine aZ 22 1 [(0,.tmp 110)] rfl [(0,.int .u8 (y8.toNat:Int))] rfl _ _ (HRN.out _) ?_;obtain⟨gN,y4,hg,hw,iY,HEy4⟩:=iZ.out.allocd (.cells #[.int .u8 (y8.toNat:Int)] 5);go_simp
          try rw[hg]
          generalize hq:World.alloc y3 _=q;obtain rfl:y4=q:=hw.symm.trans hq;clear hg hw hq;have tA:=zh (wK.out.below HEy4.out);have CP:=zh (iY.out.at 0 rfl);refine hK.out _ _ (show _ from by have h:=(HSB.out _ iY.out.b).c;rw[←HCV.out] at h;exact h) (fun hHeld=>?_);clear hK K
          try simp only[Act.put,zu]
          refine zr 7 rfl (fun K hK=>?_)
          ·rw[if_pos (by rfl)];refine bE (.tmp 108) (.tmp 111) rfl B _ b0 n0 HBL.out.symm rfl tA.out (some ⟨gN,0,none⟩) 1 1 y4.heap.size [y8] rfl (pX CP.out) (fun h=>by cases h) zo iY.out.k ?_;intro sp7 cap7 y5 HOy5 HBy5 HGy5;have sH:Hid (Blks B wd y5 []):=Blks.start (iY.out.b.trans HBy5.out) (Nat.le_trans iY.out.k HBy5.out.size);clear HGy5;refine hK.out _ _ (show _ from by have h:=(HSB.out _ sH.out.b).c;rw[←HCV.out] at h;exact h) (fun hHeld=>?_);clear hK K
           try simp only[Act.put,zu]
           refine zv 8 rfl ?_;refine zr 9 rfl (fun K hK=>?_);rw[if_pos (by rfl)];have HMl:=zh (HSB.out _ sH.out.b);have cP:=qU HMl.out.e;have fP:=frozen_of_row _ _ 1 _ _ HMl.out.e;go_simp;have HMf:=zh (HMl.out.setAny 1 _ (kN _ _ _ _) HMl.out.g HDG.out);have HOf:Hid (OwnBy (y5.setCell ⟨g,1,none⟩ (.slice sp7 (n0+1) cap7)) D (.slice sp7 (n0+1) cap7) (b0++[y8])):=OwnBy.base (World.ownsRow.kept HOy5.out (aY _ _ _ _) (cN HOy5.out HMl.out.e (by decide))) HDB.out;clear cP fP HMl;refine hK.out _ _ (show _ from by have h:=HMf.out.c;rw[←HCV.out] at h;exact h) (fun hHeld=>?_);clear hK K
           try simp only[Act.put,zu]
           refine zd ?_ _;clear hHeld HSB
           go_upto_region 27 with fail
           generalize World.setCell y5 _ _=w9 at *;go_wp2_with fail;go_meet;exact⟨eV,sp7,(n0+1),cap7,sp2,m,cap2,(b0++[y8]),l,HMf.out,⟨(fun cs=>by have h:=(OwnBy.setRow HOf.out HMf.out.y (by decide) cs).bsrc (n:=n0+1) (by rw[List.length_append,HBL.out];rfl);rw[setRow_size] at h;exact h.1),(HOf.out.bsrc (by rw[List.length_append,HBL.out];rfl)).2,by decide,by omega⟩,⟨HLL.out.1,HLL.out.2⟩,(fun h=>absurd (HZZ.out.symm.trans h) (by decide)),(fun h=>absurd (HZZ.out.symm.trans h) (by decide))⟩
        ·rw[if_pos (by rfl)];refine aZ 22 1 [(0,.tmp 110)] rfl [(0,.int .u8 (y8.toNat:Int))] rfl _ _ (HRN.out _) ?_;obtain⟨gN,y3,hg,hw,iZ,HEy3⟩:=HSy1.out.allocd (.cells #[.int .u8 (y8.toNat:Int)] 5);go_simp
         try rw[hg]
         generalize hq:World.alloc y1 _=q;obtain rfl:y3=q:=hw.symm.trans hq;clear hg hw hq;have wK:=zh (YL.out.below HEy3.out);refine hK.out _ _ (show _ from by have h:=(HSB.out _ iZ.out.b).c;rw[←HCV.out] at h;exact h) (fun hHeld=>?_);clear hK K
         try simp only[Act.put,zu]
         refine zr 3 rfl (fun K hK=>?_)
         ·rw[if_pos (by rfl)];refine bE (.tmp 105) (.tmp 107) rfl B _ [] 0 rfl rfl wK.out sp n0 cap y3.heap.size b0 rfl (HPF.out _ (HSB.out _ iZ.out.b).b) HPN.out zo iZ.out.k ?_;intro sp6 cap6 y4 tA HBy4 HGy4;rw[Nat.zero_add,List.nil_append] at tA;rw[Nat.zero_add];have CP:Hid (Ah y4 gN #[.int .u8 (y8.toNat:Int)] 5):=(HGy4.out.block gN (iZ.out.lt 0 rfl).2 (fun e=>iZ.out.ne 0 1 rfl rfl (by decide) (by injection e))).trans (iZ.out.at 0 rfl);have iY:Hid (Blks B wd y4 []):=Blks.start (iZ.out.b.trans HBy4.out) (Nat.le_trans iZ.out.k HBy4.out.size);clear HGy4;refine hK.out _ _ (show _ from by have h:=(HSB.out _ iY.out.b).c;rw[←HCV.out] at h;exact h) (fun hHeld=>?_);clear hK K
          try simp only[Act.put,zu]
          refine zr 7 rfl (fun K hK=>?_)
          ·rw[if_pos (by rfl)];refine bE (.tmp 108) (.tmp 111) rfl B _ b0 n0 HBL.out.symm rfl tA.out (some ⟨gN,0,none⟩) 1 1 y4.heap.size [y8] rfl (pX CP.out) (fun h=>by cases h) zo iY.out.k ?_;intro sp7 cap7 y5 HOy5 HBy5 HGy5;have sH:Hid (Blks B wd y5 []):=Blks.start (iY.out.b.trans HBy5.out) (Nat.le_trans iY.out.k HBy5.out.size);clear HGy5;refine hK.out _ _ (show _ from by have h:=(HSB.out _ sH.out.b).c;rw[←HCV.out] at h;exact h) (fun hHeld=>?_);clear hK K
           try simp only[Act.put,zu]
           refine zv 8 rfl ?_;refine zr 9 rfl (fun K hK=>?_);rw[if_pos (by rfl)];have HMl:=zh (HSB.out _ sH.out.b);have cP:=qU HMl.out.e;have fP:=frozen_of_row _ _ 1 _ _ HMl.out.e;go_simp;have HMf:=zh (HMl.out.setAny 1 _ (kN _ _ _ _) HMl.out.g HDG.out);have HOf:Hid (OwnBy (y5.setCell ⟨g,1,none⟩ (.slice sp7 (n0+1) cap7)) D (.slice sp7 (n0+1) cap7) (b0++[y8])):=OwnBy.base (World.ownsRow.kept HOy5.out (aY _ _ _ _) (cN HOy5.out HMl.out.e (by decide))) HDB.out;clear cP fP HMl;refine hK.out _ _ (show _ from by have h:=HMf.out.c;rw[←HCV.out] at h;exact h) (fun hHeld=>?_);clear hK K
           try simp only[Act.put,zu]
           refine zd ?_ _;clear hHeld HSB
           go_upto_region 27 with fail
           generalize World.setCell y5 _ _=w9 at *;go_wp2_with fail;go_meet;exact⟨eV,sp7,(n0+1),cap7,sp2,m,cap2,(b0++[y8]),l,HMf.out,⟨(fun cs=>by have h:=(OwnBy.setRow HOf.out HMf.out.y (by decide) cs).bsrc (n:=n0+1) (by rw[List.length_append,HBL.out];rfl);rw[setRow_size] at h;exact h.1),(HOf.out.bsrc (by rw[List.length_append,HBL.out];rfl)).2,by decide,by omega⟩,⟨HLL.out.1,HLL.out.2⟩,(fun h=>absurd (HZZ.out.symm.trans h) (by decide)),(fun h=>absurd (HZZ.out.symm.trans h) (by decide))⟩
       ·rw[if_pos (by rfl)];refine aZ 22 1 [(0,.tmp 110)] rfl [(0,.int .u8 (y8.toNat:Int))] rfl _ _ (HRN.out _) ?_;obtain⟨gN,y2,hg,hw,HSy2,HEy2⟩:=HSy1.out.allocd (.cells #[.int .u8 (y8.toNat:Int)] 5);go_simp
        try rw[hg]
        generalize hq:World.alloc y1 _=q;obtain rfl:y2=q:=hw.symm.trans hq;clear hg hw hq;have IP:=zh (YL.out.below HEy2.out);refine hK.out _ _ (show _ from by have h:=(HSB.out _ HSy2.out.b).c;rw[←HCV.out] at h;exact h) (fun hHeld=>?_);clear hK K
        try simp only[Act.put,zu]
        refine zr 2 rfl (fun K hK=>?_)
        ·rw[if_pos (by rfl)];have cP:=qU (HSB.out _ HSy2.out.b).e;go_simp;refine hK.out _ _ (show _ from by have h:=(HSB.out _ HSy2.out.b).c;rw[←HCV.out] at h;exact h) (fun hHeld=>?_);clear hK K
         try simp only[Act.put,zu]
         clear cP;refine zr 3 rfl (fun K hK=>?_)
         ·rw[if_pos (by rfl)];refine bE (.tmp 105) (.tmp 107) rfl B _ [] 0 rfl rfl IP.out sp n0 cap y2.heap.size b0 rfl (HPF.out _ (HSB.out _ HSy2.out.b).b) HPN.out zo HSy2.out.k ?_;intro sp6 cap6 y4 tA HBy4 HGy4;rw[Nat.zero_add,List.nil_append] at tA;rw[Nat.zero_add];have CP:Hid (Ah y4 gN #[.int .u8 (y8.toNat:Int)] 5):=(HGy4.out.block gN (HSy2.out.lt 0 rfl).2 (fun e=>HSy2.out.ne 0 1 rfl rfl (by decide) (by injection e))).trans (HSy2.out.at 0 rfl);have iY:Hid (Blks B wd y4 []):=Blks.start (HSy2.out.b.trans HBy4.out) (Nat.le_trans HSy2.out.k HBy4.out.size);clear HGy4;refine hK.out _ _ (show _ from by have h:=(HSB.out _ iY.out.b).c;rw[←HCV.out] at h;exact h) (fun hHeld=>?_);clear hK K
          try simp only[Act.put,zu]
          refine zr 7 rfl (fun K hK=>?_)
          ·rw[if_pos (by rfl)];refine bE (.tmp 108) (.tmp 111) rfl B _ b0 n0 HBL.out.symm rfl tA.out (some ⟨gN,0,none⟩) 1 1 y4.heap.size [y8] rfl (pX CP.out) (fun h=>by cases h) zo iY.out.k ?_;intro sp7 cap7 y5 HOy5 HBy5 HGy5;have sH:Hid (Blks B wd y5 []):=Blks.start (iY.out.b.trans HBy5.out) (Nat.le_trans iY.out.k HBy5.out.size);clear HGy5;refine hK.out _ _ (show _ from by have h:=(HSB.out _ sH.out.b).c;rw[←HCV.out] at h;exact h) (fun hHeld=>?_);clear hK K
           try simp only[Act.put,zu]
           refine zv 8 rfl ?_;refine zr 9 rfl (fun K hK=>?_);rw[if_pos (by rfl)];have HMl:=zh (HSB.out _ sH.out.b);have cP:=qU HMl.out.e;have fP:=frozen_of_row _ _ 1 _ _ HMl.out.e;go_simp;have HMf:=zh (HMl.out.setAny 1 _ (kN _ _ _ _) HMl.out.g HDG.out);have HOf:Hid (OwnBy (y5.setCell ⟨g,1,none⟩ (.slice sp7 (n0+1) cap7)) D (.slice sp7 (n0+1) cap7) (b0++[y8])):=OwnBy.base (World.ownsRow.kept HOy5.out (aY _ _ _ _) (cN HOy5.out HMl.out.e (by decide))) HDB.out;clear cP fP HMl;refine hK.out _ _ (show _ from by have h:=HMf.out.c;rw[←HCV.out] at h;exact h) (fun hHeld=>?_);clear hK K
           try simp only[Act.put,zu]
           refine zd ?_ _;clear hHeld HSB
           go_upto_region 27 with fail
           generalize World.setCell y5 _ _=w9 at *;go_wp2_with fail;go_meet;exact⟨eV,sp7,(n0+1),cap7,sp2,m,cap2,(b0++[y8]),l,HMf.out,⟨(fun cs=>by have h:=(OwnBy.setRow HOf.out HMf.out.y (by decide) cs).bsrc (n:=n0+1) (by rw[List.length_append,HBL.out];rfl);rw[setRow_size] at h;exact h.1),(HOf.out.bsrc (by rw[List.length_append,HBL.out];rfl)).2,by decide,by omega⟩,⟨HLL.out.1,HLL.out.2⟩,(fun h=>absurd (HZZ.out.symm.trans h) (by decide)),(fun h=>absurd (HZZ.out.symm.trans h) (by decide))⟩
      ·rw[if_pos (by rfl)];have cP:=qU (HSB.out _ TK.out.b).e;go_simp;refine hK.out _ _ (show _ from by have h:=(HSB.out _ TK.out.b).c;rw[←HCV.out] at h;exact h) (fun hHeld=>?_);clear hK K
       try simp only[Act.put,zu]
       clear cP;refine zs 0 6 rfl (fun K hK=>?_) rfl (fun K hK=>?_)
       ·rw[if_pos (by rfl)];refine aZ 22 0 [] rfl [] rfl _ _ (HRY.out _) ?_;have IP:=(show OwnBy (wd.alloc (.cells #[] 5)) B (.slice (some ⟨wd.heap.size,0,none⟩) 0 0) [] from World.ownsRow_made wd #[] 0 TK.out.k (by unfold maxLen;omega) rfl);obtain⟨gA,y2,hg,hw,HSy2,HEy2⟩:=TK.out.allocd (.cells #[] 5);rw[hw,hg] at IP;go_simp
        try rw[hg]
        generalize hq:World.alloc wd _=q;obtain rfl:y2=q:=hw.symm.trans hq;clear hg hw hq;have IP:=zh IP;refine hK.out _ _ (show _ from by have h:=(HSB.out _ HSy2.out.b).c;rw[←HCV.out] at h;exact h) (fun hHeld=>?_);clear hK K
        try simp only[Act.put,zu]
        refine zs 3 6 rfl (fun K hK=>?_) rfl (fun K hK=>?_)
        ·rw[if_pos (by rfl)];refine bE (.tmp 105) (.tmp 107) rfl B _ [] 0 rfl rfl IP.out sp n0 cap y2.heap.size b0 rfl (HPF.out _ (HSB.out _ HSy2.out.b).b) HPN.out zo HSy2.out.k ?_;intro sp6 cap6 y3 wK HBy3 HGy3;rw[Nat.zero_add,List.nil_append] at wK;rw[Nat.zero_add];have iZ:Hid (Blks B wd y3 []):=Blks.start (HSy2.out.b.trans HBy3.out) (Nat.le_trans HSy2.out.k HBy3.out.size);clear HGy3;refine hK.out _ _ (show _ from by have h:=(HSB.out _ iZ.out.b).c;rw[←HCV.out] at h;exact h) (fun hHeld=>?_);clear hK K
         try simp only[Act.put,zu]
         refine zr 6 rfl (fun K hK=>?_)
         ·rw[if_pos (by rfl)];refine aZ 22 1 [(0,.tmp 110)] rfl [(0,.int .u8 (y8.toNat:Int))] rfl _ _ (HRN.out _) ?_;obtain⟨gN,y4,hg,hw,iY,HEy4⟩:=iZ.out.allocd (.cells #[.int .u8 (y8.toNat:Int)] 5);go_simp
          try rw[hg]
          generalize hq:World.alloc y3 _=q;obtain rfl:y4=q:=hw.symm.trans hq;clear hg hw hq;have tA:=zh (wK.out.below HEy4.out);have CP:=zh (iY.out.at 0 rfl);refine hK.out _ _ (show _ from by have h:=(HSB.out _ iY.out.b).c;rw[←HCV.out] at h;exact h) (fun hHeld=>?_);clear hK K
          try simp only[Act.put,zu]
          refine zr 7 rfl (fun K hK=>?_)
          ·rw[if_pos (by rfl)];refine bE (.tmp 108) (.tmp 111) rfl B _ b0 n0 HBL.out.symm rfl tA.out (some ⟨gN,0,none⟩) 1 1 y4.heap.size [y8] rfl (pX CP.out) (fun h=>by cases h) zo iY.out.k ?_;intro sp7 cap7 y5 HOy5 HBy5 HGy5;have sH:Hid (Blks B wd y5 []):=Blks.start (iY.out.b.trans HBy5.out) (Nat.le_trans iY.out.k HBy5.out.size);clear HGy5;refine hK.out _ _ (show _ from by have h:=(HSB.out _ sH.out.b).c;rw[←HCV.out] at h;exact h) (fun hHeld=>?_);clear hK K
           try simp only[Act.put,zu]
           refine zv 8 rfl ?_;refine zr 9 rfl (fun K hK=>?_);rw[if_pos (by rfl)];have HMl:=zh (HSB.out _ sH.out.b);have cP:=qU HMl.out.e;have fP:=frozen_of_row _ _ 1 _ _ HMl.out.e;go_simp;have HMf:=zh (HMl.out.setAny 1 _ (kN _ _ _ _) HMl.out.g HDG.out);have HOf:Hid (OwnBy (y5.setCell ⟨g,1,none⟩ (.slice sp7 (n0+1) cap7)) D (.slice sp7 (n0+1) cap7) (b0++[y8])):=OwnBy.base (World.ownsRow.kept HOy5.out (aY _ _ _ _) (cN HOy5.out HMl.out.e (by decide))) HDB.out;clear cP fP HMl;refine hK.out _ _ (show _ from by have h:=HMf.out.c;rw[←HCV.out] at h;exact h) (fun hHeld=>?_);clear hK K
           try simp only[Act.put,zu]
           refine zd ?_ _;clear hHeld HSB
           go_upto_region 27 with fail
           generalize World.setCell y5 _ _=w9 at *;go_wp2_with fail;go_meet;exact⟨eV,sp7,(n0+1),cap7,sp2,m,cap2,(b0++[y8]),l,HMf.out,⟨(fun cs=>by have h:=(OwnBy.setRow HOf.out HMf.out.y (by decide) cs).bsrc (n:=n0+1) (by rw[List.length_append,HBL.out];rfl);rw[setRow_size] at h;exact h.1),(HOf.out.bsrc (by rw[List.length_append,HBL.out];rfl)).2,by decide,by omega⟩,⟨HLL.out.1,HLL.out.2⟩,(fun h=>absurd (HZZ.out.symm.trans h) (by decide)),(fun h=>absurd (HZZ.out.symm.trans h) (by decide))⟩
        ·rw[if_pos (by rfl)];refine aZ 22 1 [(0,.tmp 110)] rfl [(0,.int .u8 (y8.toNat:Int))] rfl _ _ (HRN.out _) ?_;obtain⟨gN,y3,hg,hw,iZ,HEy3⟩:=HSy2.out.allocd (.cells #[.int .u8 (y8.toNat:Int)] 5);go_simp
         try rw[hg]
         generalize hq:World.alloc y2 _=q;obtain rfl:y3=q:=hw.symm.trans hq;clear hg hw hq;have wK:=zh (IP.out.below HEy3.out);refine hK.out _ _ (show _ from by have h:=(HSB.out _ iZ.out.b).c;rw[←HCV.out] at h;exact h) (fun hHeld=>?_);clear hK K
         try simp only[Act.put,zu]
         refine zr 3 rfl (fun K hK=>?_)
         ·rw[if_pos (by rfl)];refine bE (.tmp 105) (.tmp 107) rfl B _ [] 0 rfl rfl wK.out sp n0 cap y3.heap.size b0 rfl (HPF.out _ (HSB.out _ iZ.out.b).b) HPN.out zo iZ.out.k ?_;intro sp6 cap6 y4 tA HBy4 HGy4;rw[Nat.zero_add,List.nil_append] at tA;rw[Nat.zero_add];have CP:Hid (Ah y4 gN #[.int .u8 (y8.toNat:Int)] 5):=(HGy4.out.block gN (iZ.out.lt 0 rfl).2 (fun e=>iZ.out.ne 0 1 rfl rfl (by decide) (by injection e))).trans (iZ.out.at 0 rfl);have iY:Hid (Blks B wd y4 []):=Blks.start (iZ.out.b.trans HBy4.out) (Nat.le_trans iZ.out.k HBy4.out.size);clear HGy4;refine hK.out _ _ (show _ from by have h:=(HSB.out _ iY.out.b).c;rw[←HCV.out] at h;exact h) (fun hHeld=>?_);clear hK K
          try simp only[Act.put,zu]
          refine zr 7 rfl (fun K hK=>?_)
          ·rw[if_pos (by rfl)];refine bE (.tmp 108) (.tmp 111) rfl B _ b0 n0 HBL.out.symm rfl tA.out (some ⟨gN,0,none⟩) 1 1 y4.heap.size [y8] rfl (pX CP.out) (fun h=>by cases h) zo iY.out.k ?_;intro sp7 cap7 y5 HOy5 HBy5 HGy5;have sH:Hid (Blks B wd y5 []):=Blks.start (iY.out.b.trans HBy5.out) (Nat.le_trans iY.out.k HBy5.out.size);clear HGy5;refine hK.out _ _ (show _ from by have h:=(HSB.out _ sH.out.b).c;rw[←HCV.out] at h;exact h) (fun hHeld=>?_);clear hK K
           try simp only[Act.put,zu]
           refine zv 8 rfl ?_;refine zr 9 rfl (fun K hK=>?_);rw[if_pos (by rfl)];have HMl:=zh (HSB.out _ sH.out.b);have cP:=qU HMl.out.e;have fP:=frozen_of_row _ _ 1 _ _ HMl.out.e;go_simp;have HMf:=zh (HMl.out.setAny 1 _ (kN _ _ _ _) HMl.out.g HDG.out);have HOf:Hid (OwnBy (y5.setCell ⟨g,1,none⟩ (.slice sp7 (n0+1) cap7)) D (.slice sp7 (n0+1) cap7) (b0++[y8])):=OwnBy.base (World.ownsRow.kept HOy5.out (aY _ _ _ _) (cN HOy5.out HMl.out.e (by decide))) HDB.out;clear cP fP HMl;refine hK.out _ _ (show _ from by have h:=HMf.out.c;rw[←HCV.out] at h;exact h) (fun hHeld=>?_);clear hK K
           try simp only[Act.put,zu]
           refine zd ?_ _;clear hHeld HSB
           go_upto_region 27 with fail
           generalize World.setCell y5 _ _=w9 at *;go_wp2_with fail;go_meet;exact⟨eV,sp7,(n0+1),cap7,sp2,m,cap2,(b0++[y8]),l,HMf.out,⟨(fun cs=>by have h:=(OwnBy.setRow HOf.out HMf.out.y (by decide) cs).bsrc (n:=n0+1) (by rw[List.length_append,HBL.out];rfl);rw[setRow_size] at h;exact h.1),(HOf.out.bsrc (by rw[List.length_append,HBL.out];rfl)).2,by decide,by omega⟩,⟨HLL.out.1,HLL.out.2⟩,(fun h=>absurd (HZZ.out.symm.trans h) (by decide)),(fun h=>absurd (HZZ.out.symm.trans h) (by decide))⟩
       ·rw[if_pos (by rfl)];refine aZ 22 1 [(0,.tmp 110)] rfl [(0,.int .u8 (y8.toNat:Int))] rfl _ _ (HRN.out _) ?_;obtain⟨gN,y2,hg,hw,HSy2,HEy2⟩:=TK.out.allocd (.cells #[.int .u8 (y8.toNat:Int)] 5);go_simp
        try rw[hg]
        generalize hq:World.alloc wd _=q;obtain rfl:y2=q:=hw.symm.trans hq;clear hg hw hq;refine hK.out _ _ (show _ from by have h:=(HSB.out _ HSy2.out.b).c;rw[←HCV.out] at h;exact h) (fun hHeld=>?_);clear hK K
        try simp only[Act.put,zu]
        refine zr 0 rfl (fun K hK=>?_)
        ·rw[if_pos (by rfl)];refine aZ 22 0 [] rfl [] rfl _ _ (HRY.out _) ?_;have wK:=(show OwnBy (y2.alloc (.cells #[] 5)) B (.slice (some ⟨y2.heap.size,0,none⟩) 0 0) [] from World.ownsRow_made y2 #[] 0 HSy2.out.k (by unfold maxLen;omega) rfl);obtain⟨gA,y3,hg,hw,iZ,HEy3⟩:=HSy2.out.allocd (.cells #[] 5);rw[hw,hg] at wK;go_simp
         try rw[hg]
         generalize hq:World.alloc y2 _=q;obtain rfl:y3=q:=hw.symm.trans hq;clear hg hw hq;have wK:=zh wK;refine hK.out _ _ (show _ from by have h:=(HSB.out _ iZ.out.b).c;rw[←HCV.out] at h;exact h) (fun hHeld=>?_);clear hK K
         try simp only[Act.put,zu]
         refine zr 3 rfl (fun K hK=>?_)
         ·rw[if_pos (by rfl)];refine bE (.tmp 105) (.tmp 107) rfl B _ [] 0 rfl rfl wK.out sp n0 cap y3.heap.size b0 rfl (HPF.out _ (HSB.out _ iZ.out.b).b) HPN.out zo iZ.out.k ?_;intro sp6 cap6 y4 tA HBy4 HGy4;rw[Nat.zero_add,List.nil_append] at tA;rw[Nat.zero_add];have CP:Hid (Ah y4 gN #[.int .u8 (y8.toNat:Int)] 5):=(HGy4.out.block gN (iZ.out.lt 1 rfl).2 (fun e=>iZ.out.ne 1 0 rfl rfl (by decide) (by injection e))).trans (iZ.out.at 1 rfl);have iY:Hid (Blks B wd y4 []):=Blks.start (iZ.out.b.trans HBy4.out) (Nat.le_trans iZ.out.k HBy4.out.size);clear HGy4;refine hK.out _ _ (show _ from by have h:=(HSB.out _ iY.out.b).c;rw[←HCV.out] at h;exact h) (fun hHeld=>?_);clear hK K
          try simp only[Act.put,zu]
          refine zr 7 rfl (fun K hK=>?_)
          ·rw[if_pos (by rfl)];refine bE (.tmp 108) (.tmp 111) rfl B _ b0 n0 HBL.out.symm rfl tA.out (some ⟨gN,0,none⟩) 1 1 y4.heap.size [y8] rfl (pX CP.out) (fun h=>by cases h) zo iY.out.k ?_;intro sp7 cap7 y5 HOy5 HBy5 HGy5;have sH:Hid (Blks B wd y5 []):=Blks.start (iY.out.b.trans HBy5.out) (Nat.le_trans iY.out.k HBy5.out.size);clear HGy5;refine hK.out _ _ (show _ from by have h:=(HSB.out _ sH.out.b).c;rw[←HCV.out] at h;exact h) (fun hHeld=>?_);clear hK K
           try simp only[Act.put,zu]
           refine zv 8 rfl ?_;refine zr 9 rfl (fun K hK=>?_);rw[if_pos (by rfl)];have HMl:=zh (HSB.out _ sH.out.b);have cP:=qU HMl.out.e;have fP:=frozen_of_row _ _ 1 _ _ HMl.out.e;go_simp;have HMf:=zh (HMl.out.setAny 1 _ (kN _ _ _ _) HMl.out.g HDG.out);have HOf:Hid (OwnBy (y5.setCell ⟨g,1,none⟩ (.slice sp7 (n0+1) cap7)) D (.slice sp7 (n0+1) cap7) (b0++[y8])):=OwnBy.base (World.ownsRow.kept HOy5.out (aY _ _ _ _) (cN HOy5.out HMl.out.e (by decide))) HDB.out;clear cP fP HMl;refine hK.out _ _ (show _ from by have h:=HMf.out.c;rw[←HCV.out] at h;exact h) (fun hHeld=>?_);clear hK K
           try simp only[Act.put,zu]
           refine zd ?_ _;clear hHeld HSB
           go_upto_region 27 with fail
           generalize World.setCell y5 _ _=w9 at *;go_wp2_with fail;go_meet;exact⟨eV,sp7,(n0+1),cap7,sp2,m,cap2,(b0++[y8]),l,HMf.out,⟨(fun cs=>by have h:=(OwnBy.setRow HOf.out HMf.out.y (by decide) cs).bsrc (n:=n0+1) (by rw[List.length_append,HBL.out];rfl);rw[setRow_size] at h;exact h.1),(HOf.out.bsrc (by rw[List.length_append,HBL.out];rfl)).2,by decide,by omega⟩,⟨HLL.out.1,HLL.out.2⟩,(fun h=>absurd (HZZ.out.symm.trans h) (by decide)),(fun h=>absurd (HZZ.out.symm.trans h) (by decide))⟩
      ·rw[if_pos (by rfl)];refine aZ 22 1 [(0,.tmp 110)] rfl [(0,.int .u8 (y8.toNat:Int))] rfl _ _ (HRN.out _) ?_;obtain⟨gN,y1,hg,hw,HSy1,HEy1⟩:=TK.out.allocd (.cells #[.int .u8 (y8.toNat:Int)] 5);go_simp
       try rw[hg]
       generalize hq:World.alloc wd _=q;obtain rfl:y1=q:=hw.symm.trans hq;clear hg hw hq;refine hK.out _ _ (show _ from by have h:=(HSB.out _ HSy1.out.b).c;rw[←HCV.out] at h;exact h) (fun hHeld=>?_);clear hK K
       try simp only[Act.put,zu]
       refine zs 0 2 rfl (fun K hK=>?_) rfl (fun K hK=>?_)
       ·rw[if_pos (by rfl)];refine aZ 22 0 [] rfl [] rfl _ _ (HRY.out _) ?_;have IP:=(show OwnBy (y1.alloc (.cells #[] 5)) B (.slice (some ⟨y1.heap.size,0,none⟩) 0 0) [] from World.ownsRow_made y1 #[] 0 HSy1.out.k (by unfold maxLen;omega) rfl);obtain⟨gA,y2,hg,hw,HSy2,HEy2⟩:=HSy1.out.allocd (.cells #[] 5);rw[hw,hg] at IP;go_simp
        try rw[hg]
        generalize hq:World.alloc y1 _=q;obtain rfl:y2=q:=hw.symm.trans hq;clear hg hw hq;have IP:=zh IP;refine hK.out _ _ (show _ from by have h:=(HSB.out _ HSy2.out.b).c;rw[←HCV.out] at h;exact h) (fun hHeld=>?_);clear hK K
        try simp only[Act.put,zu]
        refine zr 2 rfl (fun K hK=>?_)
        ·rw[if_pos (by rfl)];have cP:=qU (HSB.out _ HSy2.out.b).e;go_simp;refine hK.out _ _ (show _ from by have h:=(HSB.out _ HSy2.out.b).c;rw[←HCV.out] at h;exact h) (fun hHeld=>?_);clear hK K
         try simp only[Act.put,zu]
         clear cP;refine zr 3 rfl (fun K hK=>?_)
         ·rw[if_pos (by rfl)];refine bE (.tmp 105) (.tmp 107) rfl B _ [] 0 rfl rfl IP.out sp n0 cap y2.heap.size b0 rfl (HPF.out _ (HSB.out _ HSy2.out.b).b) HPN.out zo HSy2.out.k ?_;intro sp6 cap6 y4 tA HBy4 HGy4;rw[Nat.zero_add,List.nil_append] at tA;rw[Nat.zero_add];have CP:Hid (Ah y4 gN #[.int .u8 (y8.toNat:Int)] 5):=(HGy4.out.block gN (HSy2.out.lt 1 rfl).2 (fun e=>HSy2.out.ne 1 0 rfl rfl (by decide) (by injection e))).trans (HSy2.out.at 1 rfl);have iY:Hid (Blks B wd y4 []):=Blks.start (HSy2.out.b.trans HBy4.out) (Nat.le_trans HSy2.out.k HBy4.out.size);clear HGy4;refine hK.out _ _ (show _ from by have h:=(HSB.out _ iY.out.b).c;rw[←HCV.out] at h;exact h) (fun hHeld=>?_);clear hK K
          try simp only[Act.put,zu]
          refine zr 7 rfl (fun K hK=>?_)
          ·rw[if_pos (by rfl)];refine bE (.tmp 108) (.tmp 111) rfl B _ b0 n0 HBL.out.symm rfl tA.out (some ⟨gN,0,none⟩) 1 1 y4.heap.size [y8] rfl (pX CP.out) (fun h=>by cases h) zo iY.out.k ?_;intro sp7 cap7 y5 HOy5 HBy5 HGy5;have sH:Hid (Blks B wd y5 []):=Blks.start (iY.out.b.trans HBy5.out) (Nat.le_trans iY.out.k HBy5.out.size);clear HGy5;refine hK.out _ _ (show _ from by have h:=(HSB.out _ sH.out.b).c;rw[←HCV.out] at h;exact h) (fun hHeld=>?_);clear hK K
           try simp only[Act.put,zu]
           refine zv 8 rfl ?_;refine zr 9 rfl (fun K hK=>?_);rw[if_pos (by rfl)];have HMl:=zh (HSB.out _ sH.out.b);have cP:=qU HMl.out.e;have fP:=frozen_of_row _ _ 1 _ _ HMl.out.e;go_simp;have HMf:=zh (HMl.out.setAny 1 _ (kN _ _ _ _) HMl.out.g HDG.out);have HOf:Hid (OwnBy (y5.setCell ⟨g,1,none⟩ (.slice sp7 (n0+1) cap7)) D (.slice sp7 (n0+1) cap7) (b0++[y8])):=OwnBy.base (World.ownsRow.kept HOy5.out (aY _ _ _ _) (cN HOy5.out HMl.out.e (by decide))) HDB.out;clear cP fP HMl;refine hK.out _ _ (show _ from by have h:=HMf.out.c;rw[←HCV.out] at h;exact h) (fun hHeld=>?_);clear hK K
           try simp only[Act.put,zu]
           refine zd ?_ _;clear hHeld HSB
           go_upto_region 27 with fail
           generalize World.setCell y5 _ _=w9 at *;go_wp2_with fail;go_meet;exact⟨eV,sp7,(n0+1),cap7,sp2,m,cap2,(b0++[y8]),l,HMf.out,⟨(fun cs=>by have h:=(OwnBy.setRow HOf.out HMf.out.y (by decide) cs).bsrc (n:=n0+1) (by rw[List.length_append,HBL.out];rfl);rw[setRow_size] at h;exact h.1),(HOf.out.bsrc (by rw[List.length_append,HBL.out];rfl)).2,by decide,by omega⟩,⟨HLL.out.1,HLL.out.2⟩,(fun h=>absurd (HZZ.out.symm.trans h) (by decide)),(fun h=>absurd (HZZ.out.symm.trans h) (by decide))⟩
       ·rw[if_pos (by rfl)];have cP:=qU (HSB.out _ HSy1.out.b).e;go_simp;refine hK.out _ _ (show _ from by have h:=(HSB.out _ HSy1.out.b).c;rw[←HCV.out] at h;exact h) (fun hHeld=>?_);clear hK K
        try simp only[Act.put,zu]
        clear cP;refine zr 0 rfl (fun K hK=>?_)
        ·rw[if_pos (by rfl)];refine aZ 22 0 [] rfl [] rfl _ _ (HRY.out _) ?_;have wK:=(show OwnBy (y1.alloc (.cells #[] 5)) B (.slice (some ⟨y1.heap.size,0,none⟩) 0 0) [] from World.ownsRow_made y1 #[] 0 HSy1.out.k (by unfold maxLen;omega) rfl);obtain⟨gA,y3,hg,hw,iZ,HEy3⟩:=HSy1.out.allocd (.cells #[] 5);rw[hw,hg] at wK;go_simp
         try rw[hg]
         generalize hq:World.alloc y1 _=q;obtain rfl:y3=q:=hw.symm.trans hq;clear hg hw hq;have wK:=zh wK;refine hK.out _ _ (show _ from by have h:=(HSB.out _ iZ.out.b).c;rw[←HCV.out] at h;exact h) (fun hHeld=>?_);clear hK K
         try simp only[Act.put,zu]
         refine zr 3 rfl (fun K hK=>?_)
         ·rw[if_pos (by rfl)];refine bE (.tmp 105) (.tmp 107) rfl B _ [] 0 rfl rfl wK.out sp n0 cap y3.heap.size b0 rfl (HPF.out _ (HSB.out _ iZ.out.b).b) HPN.out zo iZ.out.k ?_;intro sp6 cap6 y4 tA HBy4 HGy4;rw[Nat.zero_add,List.nil_append] at tA;rw[Nat.zero_add];have CP:Hid (Ah y4 gN #[.int .u8 (y8.toNat:Int)] 5):=(HGy4.out.block gN (iZ.out.lt 1 rfl).2 (fun e=>iZ.out.ne 1 0 rfl rfl (by decide) (by injection e))).trans (iZ.out.at 1 rfl);have iY:Hid (Blks B wd y4 []):=Blks.start (iZ.out.b.trans HBy4.out) (Nat.le_trans iZ.out.k HBy4.out.size);clear HGy4;refine hK.out _ _ (show _ from by have h:=(HSB.out _ iY.out.b).c;rw[←HCV.out] at h;exact h) (fun hHeld=>?_);clear hK K
          try simp only[Act.put,zu]
          refine zr 7 rfl (fun K hK=>?_)
          ·rw[if_pos (by rfl)];refine bE (.tmp 108) (.tmp 111) rfl B _ b0 n0 HBL.out.symm rfl tA.out (some ⟨gN,0,none⟩) 1 1 y4.heap.size [y8] rfl (pX CP.out) (fun h=>by cases h) zo iY.out.k ?_;intro sp7 cap7 y5 HOy5 HBy5 HGy5;have sH:Hid (Blks B wd y5 []):=Blks.start (iY.out.b.trans HBy5.out) (Nat.le_trans iY.out.k HBy5.out.size);clear HGy5;refine hK.out _ _ (show _ from by have h:=(HSB.out _ sH.out.b).c;rw[←HCV.out] at h;exact h) (fun hHeld=>?_);clear hK K
           try simp only[Act.put,zu]
           refine zv 8 rfl ?_;refine zr 9 rfl (fun K hK=>?_);rw[if_pos (by rfl)];have HMl:=zh (HSB.out _ sH.out.b);have cP:=qU HMl.out.e;have fP:=frozen_of_row _ _ 1 _ _ HMl.out.e;go_simp;have HMf:=zh (HMl.out.setAny 1 _ (kN _ _ _ _) HMl.out.g HDG.out);have HOf:Hid (OwnBy (y5.setCell ⟨g,1,none⟩ (.slice sp7 (n0+1) cap7)) D (.slice sp7 (n0+1) cap7) (b0++[y8])):=OwnBy.base (World.ownsRow.kept HOy5.out (aY _ _ _ _) (cN HOy5.out HMl.out.e (by decide))) HDB.out;clear cP fP HMl;refine hK.out _ _ (show _ from by have h:=HMf.out.c;rw[←HCV.out] at h;exact h) (fun hHeld=>?_);clear hK K
           try simp only[Act.put,zu]
           refine zd ?_ _;clear hHeld HSB
           go_upto_region 27 with fail
           generalize World.setCell y5 _ _=w9 at *;go_wp2_with fail;go_meet;exact⟨eV,sp7,(n0+1),cap7,sp2,m,cap2,(b0++[y8]),l,HMf.out,⟨(fun cs=>by have h:=(OwnBy.setRow HOf.out HMf.out.y (by decide) cs).bsrc (n:=n0+1) (by rw[List.length_append,HBL.out];rfl);rw[setRow_size] at h;exact h.1),(HOf.out.bsrc (by rw[List.length_append,HBL.out];rfl)).2,by decide,by omega⟩,⟨HLL.out.1,HLL.out.2⟩,(fun h=>absurd (HZZ.out.symm.trans h) (by decide)),(fun h=>absurd (HZZ.out.symm.trans h) (by decide))⟩
    ·-- 3
     have cT:=IM HM.out.e;have fT:=frozen_of_row _ _ 0 _ _ HM.out.e;have HM4:=zh (HM.out.setAny 0 _ (WG eV layW _ _) HM.out.g HDG.out);go_wp2_with fail;clear cT fT;generalize World.setCell w3 _ _=w4 at *;go_meet;exact⟨layW,sp,n0,cap,sp2,m,cap2,b0,l,HM4.out,⟨(HPG.out _ HM4.out.b),HPN.out,by decide,by omega⟩,⟨HLL.out.1,HLL.out.2⟩,(fun h=>absurd (HZZ.out.symm.trans h) (by decide)),(fun h=>absurd (HZZ.out.symm.trans h) (by decide))⟩
    ·-- 4
     obtain⟨gS,hsp2⟩:∃ gS,sp2=some ⟨gS,0,none⟩:=by
      obtain⟨bb,off,e,_⟩:=(HM.out.g.sgs HLL.out.1).cells zo;have h:=HM.out.g.o.1;obtain⟨_,⟨e2,_⟩ | ⟨gg,c9,cur,e2,_⟩⟩:=h
      ·rw[e] at e2;cases e2
      ·injection e2 with e2 _ _;exact⟨gg,e2⟩
     subst hsp2;obtain⟨m1,rfl⟩:∃ m1,m=m1+1:=⟨m-1,by omega⟩;have hkl:m1<l.length∧0<l.length:=by have:=HLL.out.1;omega
     obtain⟨x,hx⟩:∃ x,l[m1]? = some x:=⟨l[m1],List.getElem?_eq_getElem hkl.1⟩;obtain⟨y,hy⟩:∃ y,l[0]? = some y:=⟨l[0],List.getElem?_eq_getElem hkl.2⟩;have HXX:=zh hx;have HYY:=zh hy;have HSX:=zh (HM.out.g.t x (List.mem_of_getElem? hx));have HSY:=zh (HM.out.g.t y (List.mem_of_getElem? hy));have HX2:=zh (HLL.out.2.2 (pg x) (List.mem_map.2 ⟨x,List.mem_of_getElem? hx,rfl⟩));have HY2:=zh (HLL.out.2.2 (pg y) (List.mem_map.2 ⟨y,List.mem_of_getElem? hy,rfl⟩));have HIX:=zh (gG HSX.out.r);have HIY:=zh (gG HSY.out.r);have HMD:=zh (HM.out.drew HD1.out.1 HD1.out.2);have HMA:Hid (MdS w CW eV (.slice sp n0 cap) (.slice (some ⟨gS,0,none⟩) (m1+1) cap2) g D (l.set 0 x) (w3.drew.setCells gS (0*20) (aX x))):=HMD.out.setGs _ _ (HMD.out.g.setW HLL.out.1 zo HSX.out.r (HMD.out.g.t x (List.mem_of_getElem? hx))) HD1.out.1 HD1.out.2;have HLA:Hid ((l.set 0 x).length=m1+1):=by show _=_;rw[List.length_set];exact HLL.out.1
     have HAT:Hid (∃ z,(l.set 0 x)[m1]? = some z):=⟨(l.set 0 x)[m1]'(by rw[HLA.out];omega),List.getElem?_eq_getElem _⟩;have HMB:Hid (MdS w CW eV (.slice sp n0 cap) (.slice (some ⟨gS,0,none⟩) (m1+1) cap2) g D ((l.set 0 x).set m1 y) ((w3.drew.setCells gS (0*20) (aX x)).setCells gS (m1*20) (aX y))):=HMA.out.setGs _ _ (HMA.out.g.setW HLA.out zo HSY.out.r ((HMD.out.g.t y (List.mem_of_getElem? hy)).setCells _ _ _ (BK HMD.out.g.o))) HD1.out.1 HD1.out.2;have HLB:Hid (((l.set 0 x).set m1 y).length=m1+1):=by show _=_;rw[List.length_set];exact HLA.out
     have HMP:Hid (MkP (((l.set 0 x).set m1 y).map pg) 3):=(HLL.out.2.set HX2.out.1 HX2.out.2).set HY2.out.1 HY2.out.2;have p1:(0:Int)≤(m1:Int):=by omega
     have p2:(m1:Int)<(m1:Int)+1:=by omega
     have p3:(0:Int)<(m1:Int)+1:=by omega
     have q9:IntKind.i64.wrap (m1:Int)=(m1:Int):=IntWalk.i64_in _ zo;have hpm:((m1+1:Nat):Int)=(m1:Int)+1:=by omega
     clear hx hy
     go_upto_region 24 with fail
     refine wp_region_held_drew (S:=fun w'=>w'.heap[g]? = some (.cells (enA eV (.slice sp n0 cap) (.slice (some ⟨gS,0,none⟩) (m1+1) cap2)) 25 (0,0))) (by kernel_rfl) HM.out.e (fun hHeld=>?_);refine zv 0 rfl ?_;refine zx 1 rfl (v:=?_) ?_ ?_;rotate_left
     ·intro w' hSw;have c2:=iW hSw;go_simp;try with_reducible rfl
     refine zv 2 rfl ?_;refine zx 3 rfl (v:=?_) ?_ ?_;rotate_left
     ·intro w' hSw;have c2:=iW hSw;go_simp;try with_reducible rfl
     refine zv 4 rfl ?_;refine zv 5 rfl ?_;refine zv 6 rfl ?_;refine zx 7 rfl (v:=?_) ?_ ?_;rotate_left
     ·intro w' hSw;have c2:=iW hSw;go_simp;try with_reducible rfl
     refine zv 8 rfl ?_;refine zv 9 rfl ?_;refine zv 10 rfl ?_;refine zv 12 rfl ?_;refine zx 13 rfl (v:=?_) ?_ ?_;rotate_left
     ·intro w' hSw;have c2:=iW hSw;go_simp;try with_reducible rfl
     refine zv 14 rfl ?_;refine zs 11 15 rfl (fun K hK=>?_) rfl (fun K hK=>?_)
     ·rw[if_pos (by rfl)];refine wp_load_mid 50 (.tmp 129) rfl gS (m1*20) (by rfl) _ _ (HMD.out.g.rng HLL.out.1 HXX.out) Tryz.underlying50 rfl HIX.out ?_;refine hK.out _ _ HMD.out.e fun _=>?_;clear hK K
      try simp only[Act.put,zu]
      refine zr 15 rfl (fun K hK=>?_);rw[if_pos (by rfl)];refine wp_load_mid 50 (.tmp 133) rfl gS (0*20) (by rfl) _ _ (HMD.out.g.rng HLL.out.1 HYY.out) Tryz.underlying50 rfl HIY.out ?_;refine hK.out _ _ HMD.out.e fun _=>?_;clear hK K
      try simp only[Act.put,zu]
      refine zv 16 rfl ?_;refine zr 17 rfl (fun K hK=>?_);rw[if_pos (by rfl)];refine wp_store_mid 50 (.tmp 135) (.tmp 130) rfl gS (0*20) (aX x).toArray (by rfl) (by rfl) (by rw[show (aX x).toArray.size=20 from aJ HSX.out.r];exact HMD.out.g.there HLL.out.1 HYY.out) HIX.out (bG x) ?_;refine hK.out _ _ HMA.out.e fun _=>?_;clear hK K
      try simp only[Act.put,zu]
      refine zv 18 rfl ?_;refine zr 19 rfl (fun K hK=>?_);rw[if_pos (by rfl)];refine wp_store_mid 50 (.tmp 136) (.tmp 134) rfl gS (m1*20) (aX y).toArray (by rfl) (by rfl) (by rw[show (aX y).toArray.size=20 from aJ HSY.out.r];obtain⟨z,hz⟩:=HAT.out;exact HMA.out.g.there HLA.out hz) HIY.out (bG y) ?_;refine hK.out _ _ HMB.out.e fun _=>?_;clear hK K
      try simp only[Act.put,zu]
      refine zd ?_ _;clear hHeld HMA HMD HM HC3;go_wp2_with fail;generalize World.setCells (World.setCells w3.drew _ _ _) _ _ _=w4 at *;generalize (l.set 0 x).set m1 y=l4 at *;go_meet;exact⟨eV,sp,n0,cap,(some ⟨gS,0,none⟩),(m1+1),cap2,b0,l4,HMB.out,⟨(HPG.out _ HMB.out.b),HPN.out,by decide,by omega⟩,⟨HLB.out,HMP.out⟩,(fun h=>absurd (HZZ.out.symm.trans h) (by decide)),(fun h=>absurd (HZZ.out.symm.trans h) (by decide))⟩
     ·rw[if_pos (by rfl)];refine wp_load_mid 50 (.tmp 133) rfl gS (0*20) (by rfl) _ _ (HMD.out.g.rng HLL.out.1 HYY.out) Tryz.underlying50 rfl HIY.out ?_;refine hK.out _ _ HMD.out.e fun _=>?_;clear hK K
      try simp only[Act.put,zu]
      refine zr 11 rfl (fun K hK=>?_);rw[if_pos (by rfl)];refine wp_load_mid 50 (.tmp 129) rfl gS (m1*20) (by rfl) _ _ (HMD.out.g.rng HLL.out.1 HXX.out) Tryz.underlying50 rfl HIX.out ?_;refine hK.out _ _ HMD.out.e fun _=>?_;clear hK K
      try simp only[Act.put,zu]
      refine zv 16 rfl ?_;refine zr 17 rfl (fun K hK=>?_);rw[if_pos (by rfl)];refine wp_store_mid 50 (.tmp 135) (.tmp 130) rfl gS (0*20) (aX x).toArray (by rfl) (by rfl) (by rw[show (aX x).toArray.size=20 from aJ HSX.out.r];exact HMD.out.g.there HLL.out.1 HYY.out) HIX.out (bG x) ?_;refine hK.out _ _ HMA.out.e fun _=>?_;clear hK K
      try simp only[Act.put,zu]
      refine zv 18 rfl ?_;refine zr 19 rfl (fun K hK=>?_);rw[if_pos (by rfl)];refine wp_store_mid 50 (.tmp 136) (.tmp 134) rfl gS (m1*20) (aX y).toArray (by rfl) (by rfl) (by rw[show (aX y).toArray.size=20 from aJ HSY.out.r];obtain⟨z,hz⟩:=HAT.out;exact HMA.out.g.there HLA.out hz) HIY.out (bG y) ?_;refine hK.out _ _ HMB.out.e fun _=>?_;clear hK K
      try simp only[Act.put,zu]
      refine zd ?_ _;clear hHeld HMA HMD HM HC3;go_wp2_with fail;generalize World.setCells (World.setCells w3.drew _ _ _) _ _ _=w4 at *;generalize (l.set 0 x).set m1 y=l4 at *;go_meet;exact⟨eV,sp,n0,cap,(some ⟨gS,0,none⟩),(m1+1),cap2,b0,l4,HMB.out,⟨(HPG.out _ HMB.out.b),HPN.out,by decide,by omega⟩,⟨HLB.out,HMP.out⟩,(fun h=>absurd (HZZ.out.symm.trans h) (by decide)),(fun h=>absurd (HZZ.out.symm.trans h) (by decide))⟩
    ·-- 5
     obtain⟨gS,hsp2⟩:∃ gS,sp2=some ⟨gS,0,none⟩:=by
      obtain⟨bb,off,e,_⟩:=(HM.out.g.sgs HLL.out.1).cells zo;have h:=HM.out.g.o.1;obtain⟨_,⟨e2,_⟩ | ⟨gg,c9,cur,e2,_⟩⟩:=h
      ·rw[e] at e2;cases e2
      ·injection e2 with e2 _ _;exact⟨gg,e2⟩
     subst hsp2;have hkl:kx<l.length:=by have:=HLL.out.1;omega
     obtain⟨x,hx⟩:∃ x,l[kx]? = some x:=⟨l[kx],List.getElem?_eq_getElem hkl⟩;have HXX:=zh hx;have HSX:=zh (HM.out.g.t x (List.mem_of_getElem? hx));have hr16:x.r.length=16:=HSX.out.r.1;have cB:w3.cell? ⟨gS,kx*20+1+3,none⟩=some (.int .u8 (x.r.getD 3 0)):=by
      obtain⟨bb,off,e,_,_,hrr⟩:=(HM.out.g.sgs HLL.out.1).cells zo;injection e with e;injection e with e1 e2;subst e1 e2
      have h:=hrr kx x hx 4 (.int .u8 (x.r.getD 3 0)) (by
       unfold aX sgP pkL;rw[List.cons_append,List.getElem?_cons_succ,List.getElem?_append_left (by rw[List.length_map];omega),List.getElem?_map,List.getD_eq_getElem?_getD,List.getElem?_eq_getElem zo];rfl)
      rw[Nat.zero_add] at h;exact h
     obtain⟨bv,hbv⟩:∃ bv,bv=x.r.getD 3 0:=⟨_,rfl⟩;rw[←hbv] at cB;have fB:w3.frozen? ⟨gS,kx*20+1+3,none⟩=false:=by have h:=HM.out.g.o.1;rw[HLL.out.1] at h;exact World.ownsRow.frozenAt h _
     have p1:(0:Int)≤(kx:Int):=by omega
     have p2:(kx:Int)<(m:Int):=by omega
     clear hx hr16 hbv
     go_upto_region 26 with fail
     refine wp_region_held_drew (S:=fun w'=>w'.heap[g]? = some (.cells (enA eV (.slice sp n0 cap) (.slice (some ⟨gS,0,none⟩) m cap2)) 25 (0,0))∧w'.heap[w.heap.size]? = some (.cells (caA (.slice sp n cap) (.slice sc nc cc) kk yy) 27 (0,0))) (by kernel_rfl) ⟨HM.out.e,HC3.out⟩ (fun hHeld=>?_);refine zv 0 rfl ?_;refine zx 1 rfl (v:=?_) ?_ ?_;rotate_left
     ·intro w' hSw;have c2:=iW hSw.1;go_simp;try with_reducible rfl
     refine zv 2 rfl ?_;refine zv 3 rfl ?_;refine zv 4 rfl ?_;refine zv 5 rfl ?_;refine zv 6 rfl ?_;refine zv 8 rfl ?_;refine zx 9 rfl (v:=?_) ?_ ?_;rotate_left
     ·intro w' hSw;have c3:=ca_y hSw.2;go_simp;try with_reducible rfl
     refine zv 11 rfl ?_;refine zv 12 rfl ?_;refine zv 13 rfl ?_;refine zr 7 rfl (fun K hK=>?_);rw[if_pos (by rfl)];go_simp;refine hK.out _ _ ⟨HM.out.e,HC3.out⟩ fun _=>?_;clear hK K
     try simp only[Act.put,zu]
     refine zv 10 rfl ?_;refine zv 14 rfl ?_;refine zr 15 rfl (fun K hK=>?_);rw[if_pos (by rfl)];go_simp
     have HM4:Hid (MdS w CW eV (.slice sp n0 cap) (.slice (some ⟨gS,0,none⟩) m cap2) g D (l.set kx (BC x (bits .xor .u8 bv yy))) (World.drew (World.setCell w3 ⟨gS,kx*20+1+3,none⟩ (.int .u8 (bits .xor .u8 bv yy))))) :=
      (show MdS w CW eV (.slice sp n0 cap) (.slice (some ⟨gS,0,none⟩) m cap2) g D (l.set kx (BC x (bits .xor .u8 bv yy))) (World.setCell w3 ⟨gS,kx*20+4,none⟩ (.int .u8 (bits .xor .u8 bv yy))) from HM.out.setG _ _ (HM.out.g.setK HLL.out.1 zo HXX.out _ (UY HSX.out.r) (DH HSX.out.r (uQ _ _)) (HSX.out.one (DH HSX.out.r (uQ _ _)) ⟨rfl,rfl,rfl,rfl⟩ ⟨rfl,rfl,rfl,rfl⟩)) HD1.out.1 HD1.out.2).below ((Below.refl _ _).drew) HD1.out.1 HD1.out.2
     have HX2:=zh (HLL.out.2.2 (pg x) (List.mem_map.2 ⟨x,List.mem_of_getElem? HXX.out,rfl⟩));have HMP:Hid (MkP ((l.set kx (BC x (bits .xor .u8 bv yy))).map pg) 3):=HLL.out.2.set HX2.out.1 HX2.out.2;have HLN:Hid ((l.set kx (BC x (bits .xor .u8 bv yy))).length=m):=by show _=_;rw[List.length_set];exact HLL.out.1
     have HC4:Hid ((World.drew (World.setCell w3 ⟨gS,kx*20+1+3,none⟩ (.int .u8 (bits .xor .u8 bv yy)))).heap[w.heap.size]? = some (.cells (caA (.slice sp n cap) (.slice sc nc cc) kk yy) 27 (0,0))):=by have h:=HM4.out.c;rw[←HCV.out] at h;exact h
     refine hK.out _ _ ⟨HM4.out.e,HC4.out⟩ (fun hHeld=>?_);clear hK K hHeld
     try simp only[Act.put,zu]
     refine zd ?_ _;clear cB fB HM HC3 HC4;go_wp2_with fail;generalize World.drew (World.setCell w3 _ _)=w4 at *;generalize l.set kx (BC x (bits .xor .u8 bv yy))=l4 at *;go_meet;exact⟨eV,sp,n0,cap,(some ⟨gS,0,none⟩),m,cap2,b0,l4,HM4.out,⟨(HPG.out _ HM4.out.b),HPN.out,by decide,by omega⟩,⟨HLN.out,HMP.out⟩,(fun h=>absurd (HZZ.out.symm.trans h) (by decide)),(fun h=>absurd (HZZ.out.symm.trans h) (by decide))⟩
   case rest =>
   obtain⟨t9,a1,n1,c1,a2,n2,c2,b9,l9,HM9,HPY,HLM,HGG⟩:=hcut
   go_wp2_with (first
    | (refine wpList_load_row rfl 25 _ rfl g rfl 25 _ (0,0) _ HM9.out.e Tryz.underlying25 rfl (aE _ _ _) ?_)
    | (refine wpList_store_row rfl 25 _ _ rfl (w.heap.size+1) (enA t9 (.slice a1 n1 c1) (.slice a2 n2 c2)) rfl rfl 25 _ HM9.out.y (aE _ _ _) rfl (bI _ _ _ _ _ _ _) ?_;generalize hw8:World.setRow wc _ _=w8;have HY8:Hid (Ah w8 (w.heap.size+1) (enA t9 (.slice a1 n1 c1) (.slice a2 n2 c2)) 25):=(by rw[←hw8];exact setRow_heap _ _ _ _ _ _ HM9.out.y);have HB8:Hid (Bw w w8):=(by rw[←hw8];exact below_setRow HM9.out.b (Nat.le_succ _) _);have HG8:Hid (MkG w8 D (.slice a2 n2 c2) l9):=(by rw[←hw8];exact HM9.out.g.setRow HM9.out.y (by decide) _);have HP8:Hid (BSrc w8 w8.heap.size a1 n1 c1 b9):=(by rw[←hw8,setRow_size];exact HPY.out.1 _);clear hw8))
   exact bodyPost_ret (results_cell_row (P:=Tryz.prog) rfl _ _ (w.heap.size+1) 25 _ (0,0) _ rfl HY8.out Tryz.underlying25 rfl (aE _ _ _)) rfl (MdO.of HPY.out.2.2.1 HP8.out HPY.out.2.1 HG8.out HLM.out.1 HPY.out.2.2.2 HLM.out.2 HB8.out HGG.out.1 HGG.out.2)
end Go.Proofs.YtaeobegaodhpcaaGreatDoor
