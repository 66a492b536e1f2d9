/-
  Keys of many one-time keys, plain: the nodes of a tree, the neighbours on a leaf's way, and what a signature's path leads to.
-/
import Derived.Test.YtaeobegaodhpcaaGreatDoorZip
import Derived.Test.YtaeobegaodhpcaaGreatDoorQ8
set_option maxRecDepth 100000
set_option maxHeartbeats 8000000
namespace Go.Proofs.YtaeobegaodhpcaaGreatDoor
open Go.RowKit Go.Proofs.YtaeobegaodhpcaaGreatDoor.One
def eX (level index:Int) (a b:List Int):List Int:=hfB ([6,level % 256,lb1 index,lb0 index]++a++b)
theorem bK (level index:Int) (a b:List Int):H16 (eX level index a b):=jL _
def iR (x:List Int):Nat→Nat→List Int
 | 0,i=>OD x (i:Int)
 | k+1,i=>eX (k:Int) (i:Int) (iR x k (2*i)) (iR x k (2*i+1))
theorem fR (x:List Int) (k i:Nat):H16 (iR x k i):=by
 cases k with
 | zero=>exact fE _ _
 | succ k=>exact bK _ _ _ _
def nb (i:Nat):Nat:=if i % 2=1 then i-1 else i+1
def mG (x:List Int) (h k:Nat):List (List Int):=(List.range (2 ^ (h-k))).map (iR x k)
def eG (x:List Int) (leaf k:Nat):List Int:=iR x k (nb (leaf / 2 ^ k))
def eP (x:List Int) (h leaf:Nat):List (List Int):=(List.range h).map (eG x leaf)
def tE (p:List (List Int)) (s:List Int) (leaf:Nat):Nat→List Int
 | 0=>s
 | k+1=>if leaf / 2 ^ k % 2=1 then eX (k:Int) ((leaf / 2 ^ k / 2:Nat):Int) (p.getD k []) (tE p s leaf k) else eX (k:Int) ((leaf / 2 ^ k / 2:Nat):Int) (tE p s leaf k) (p.getD k [])
theorem uR {p:List (List Int)} {s:List Int} (hs:H16 s) (leaf k:Nat):H16 (tE p s leaf k):=by
 cases k with
 | zero=>exact hs
 | succ k=>unfold tE;split <;> exact bK _ _ _ _
theorem xI (p:List (List Int)) (s:List Int) (leaf k:Nat):tE p s leaf (k+1)=if leaf / 2 ^ k % 2=1 then eX (k:Int) ((leaf / 2 ^ k / 2:Nat):Int) (p.getD k []) (tE p s leaf k) else eX (k:Int) ((leaf / 2 ^ k / 2:Nat):Int) (tE p s leaf k) (p.getD k []):=rfl
theorem yS (x:List Int) (k i:Nat):iR x (k+1) i=eX (k:Int) (i:Int) (iR x k (2*i)) (iR x k (2*i+1)):=rfl
theorem rV (leaf k:Nat):leaf / 2 ^ (k+1)=leaf / 2 ^ k / 2:=by rw[Nat.pow_succ,Nat.div_div_eq_div_mul]
theorem xJ {x:List Int} {p:List (List Int)} {leaf h:Nat} (hp:∀ k,k<h→p.getD k []=eG x leaf k):∀ k,k≤h→tE p (iR x 0 leaf) leaf k=iR x k (leaf / 2 ^ k)
 | 0,_=>by simp[tE]
 | k + 1, hk => by
   have ih:=xJ hp k zo;rw[rV];rw[xI,yS,ih,hp k zo];unfold eG nb;generalize leaf / 2 ^ k=i;by_cases e:i % 2=1
   ·rw[if_pos e,if_pos e,show 2*(i / 2)=i-1 by omega,show i-1+1=i by omega]
   ·rw[if_neg e,if_neg e,show 2*(i / 2)=i by omega]
theorem PV (x:List Int) {h leaf k:Nat} (hk:k<h):(eP x h leaf).getD k []=eG x leaf k:=by
 unfold eP;simp[List.getD_eq_getElem?_getD,hk]
theorem OM (x:List Int) {h leaf:Nat} (hl:leaf<2 ^ h):tE (eP x h leaf) (iR x 0 leaf) leaf h=iR x h 0:=by
 rw[xJ (h:=h) (fun k hk=>PV x hk) h zl,Nat.div_eq_of_lt hl]
theorem mS (g:Nat) (t:TypeId):∀ (vs:List Value) (o:Nat) (w:World) (cur:Array Value),w.heap[g]? = some (.cells cur t (0,0))→∃ cur',(w.setCells g o vs).heap[g]? = some (.cells cur' t (0,0))∧cur'.size=cur.size
 | [],_,_,cur,hg=>⟨cur,hg,rfl⟩
 | v :: r, o, w, cur, hg => by
   obtain⟨cur',h2,h3⟩:=mS g t r (o+1) (w.setCell ⟨g,o,none⟩ v) _ (heap_setCell_same w g o cur t v hg);exact⟨cur',h2,by rw[h3];simp⟩
theorem rM:∀ (l:List (List Int)),(∀ x ∈ l,H16 x)→(gO l).length=l.length*16
 | [],_=>rfl
 | x :: t, h => by
   have h1:=rM t (fun y hy=>h y (by simp[hy]));unfold gO at h1 ⊢;rw[List.flatMap_cons,List.length_append,h1,List.length_map,(h x (by simp)).1,List.length_cons];omega
structure TabIn (w:World) (g n k:Nat) (E:Nat→List Int):Prop where
 got:∀ i,i<k→w.rangeAt g (i*16) ((E i).map (Value.int .u8))
 room:w.there g 0 (n*16)
 typ:∃ cur,w.heap[g]? = some (.cells cur 42 (0,0))∧cur.size=n*16
theorem TabIn.lt {w:World} {g n k:Nat} {E:Nat→List Int} (h:TabIn w g n k E):g<w.heap.size:=by obtain⟨cur,h1,_⟩:=h.typ;exact (Array.getElem?_eq_some_iff.1 h1).1
theorem TabIn.below {w w':World} {g n k B:Nat} {E:Nat→List Int} (h:TabIn w g n k E) (hb:Below B w w') (hg:g<B):TabIn w' g n k E :=
 ⟨fun i hi=>aB (h.got i hi) hb hg,kF h.room hb hg,by obtain⟨cur,h1,h2⟩:=h.typ;exact⟨cur,(hb.block g hg).trans h1,h2⟩⟩
theorem TabIn.at_ {w:World} {g n k:Nat} {E:Nat→List Int} (h:TabIn w g n k E) (hk:k<n):w.there g (k*16) 16:=fun j hj=>by
 have:=h.room (k*16+j) zo;rw[Nat.zero_add] at this;exact this
theorem TabIn.put {w:World} {g n k:Nat} {E:Nat→List Int} (h:TabIn w g n k E) (hE:∀ i,H16 (E i)) (hk:k<n):TabIn (w.setCells g (k*16) ((E k).map (Value.int .u8))) g n (k+1) E:=by
 have hl:∀ i,((E i).map (Value.int .u8)).length=16:=fun i=>by rw[List.length_map,(hE i).1]
 refine⟨fun i hi=>?_,World.there_setCells h.room _ _ _,?_⟩
 ·by_cases e:i=k
  ·subst e;refine World.rangeAt_setCells_same _ _ _ _ ?_;rw[hl];exact h.at_ hk
  ·exact World.rangeAt_setCells_apart (h.got i zo) _ _ _ (Or.inr (by rw[hl i,hl k];omega))
 ·obtain⟨cur,h1,h2⟩:=h.typ;obtain⟨cur',h3,h4⟩:=mS g _ _ (k*16) w cur h1;exact⟨cur',h3,by rw[h4,h2]⟩
theorem TabIn.own {w:World} {base g n:Nat} {xs:List Value} {E:Nat→List Int} (h:w.ownsRow base 42 16 (.slice (some ⟨g,0,none⟩) n n) n xs) (hl:xs.length=n*16):TabIn w g n 0 E:=by
 obtain⟨h0,h | ⟨g',c,cur,e,hg,h1,h2,h3,h4,h5⟩⟩:=h
 ·have e:=h.1;simp at e
 ·simp only[Value.slice.injEq,Option.some.injEq,Addr.mk.injEq] at e;obtain⟨⟨rfl,_,_⟩,_,rfl⟩:=e;refine⟨fun i hi=>absurd hi zo,fun j hj=>?_,cur,h1,h4⟩;rw[Nat.zero_add];refine⟨?_,frozen_of_row _ _ _ _ _ h1⟩;rw[cell_of_row _ g j _ _ _ h1,Array.getElem?_eq_getElem zo];rfl
theorem TabIn.ownHv {w:World} {base g n:Nat} {E:Nat→List Int} (h:TabIn w g n n E) (hE:∀ i,H16 (E i)) (hb:base≤g) (hn:n≤1000000):OwnHv w base (.slice (some ⟨g,0,none⟩) n n) ((List.range n).map E):=by
 have hm:∀ x ∈ (List.range n).map E,H16 x:=fun x hx=>by obtain⟨i,_,rfl⟩:=List.mem_map.1 hx;exact hE i
 have hl:∀ x ∈ (List.range n).map E,(x.map (Value.int .u8)).length=16:=fun x hx=>by rw[List.length_map,(hm x hx).1]
 refine⟨?_,hm⟩;obtain⟨cur,h1,h2⟩:=h.typ;have hlen:(gO ((List.range n).map E)).length=n*16:=by
  rw[rM _ hm,List.length_map,List.length_range]
 rw[show ((List.range n).map E).length=n by simp];refine⟨hlen,.inr ⟨g,n,cur,rfl,hb,h1,Nat.le_refl _,by unfold maxLen;omega,h2,?_⟩⟩;rw[List.take_of_length_le (by rw[Array.length_toList,h2];exact Nat.le_refl _)];apply List.ext_getElem?;intro j;by_cases hj:j<n*16
 ·have hi:j / 16<n:=by omega
  have hr:j % 16<16:=by omega
  have ej:j / 16*16+j % 16=j:=by omega
  have hx:((E (j / 16)).map (Value.int .u8))[j % 16]? = some (((E (j / 16)).map (Value.int .u8))[j % 16]'(by rw[List.length_map,(hE _).1];exact hr)):=List.getElem?_eq_getElem _;have hc:=h.got (j / 16) hi (j % 16) _ hx;rw[cell_of_row _ g _ _ _ _ h1,ej] at hc;have hf:=nO (fun d:List Int=>d.map (Value.int .u8)) 16 ((List.range n).map E) hl (j / 16) (E (j / 16)) (by simp[hi]) (j % 16) _ hx;rw[ej] at hf;unfold gO;rw[hf,Array.getElem?_toList,hc]
 ·rw[List.getElem?_eq_none (by rw[Array.length_toList,h2];omega),List.getElem?_eq_none (by rw[hlen];omega)]
theorem hZ (b:Nat):∀ (vs:List Value) (o:Nat) (w:World),(w.setCells b o vs).heap.size=w.heap.size
 | [],_,_=>rfl
 | v :: r,o,w=>by rw[World.setCells,hZ b r];simp
theorem OV (F:FuncId) (p0 n:Nat) (E:Nat→List Int) (w:World) (hE:∀ i,H16 (E i)) (hn:n≤1000000) (eg:∀ args w,(callFunc F args).run Tryz.prog w=.ok (.enter F args) w)
 (hC:∀ k,k<n→∀ w':World,Below w.heap.size w w'→Calls Tryz.prog F #[.int .i64 (k:Int),.pointer (some ⟨p0,0,none⟩)] w' fun e w''=>e=.returned (.agg (hvA (E k)))∧Below w'.heap.size w' w'') :
 Calls Tryz.prog 128 #[.int .i64 n,.func (.func F) #[] #[.pointer (some ⟨p0,0,none⟩)]] w fun e w'=>e=.returned (.slice (some ⟨w.heap.size,0,none⟩) n n)∧OwnHv w' w.heap.size (.slice (some ⟨w.heap.size,0,none⟩) n n) ((List.range n).map E)∧Below w.heap.size w w':=by
 have HE:=zh hE;have HC:=zh hC;clear hE hC;obtain⟨i0,hi0,hz0,hz1,hz2⟩:=bF pQ;have HI0:=zh hi0;have HZ0:=zh hz0;have HZ1:=zh hz1;have HZ2:=zh hz2;clear hi0 hz0 hz1 hz2
 go_enter Tryz.func128,Tryz.ntmps128
 go_wp2_with (refine wpList_make_full _ rfl _ _ 46 rfl w.heap.size 42 i0 _ 16 Tryz.underlying46 HI0.out HZ0.out HZ1.out .i64 .i64 _ _ n rfl rfl rfl rfl (by rw[HZ2.out];omega) (by unfold maxLen;omega) zl ?_;intro w1 hown1 hg1;have HT1:Hid (TabIn w1 w.heap.size n 0 E):=TabIn.own hown1 (by simp[madeCells]);have HB1:Hid (Bw w w1):=(Below.refl _ w).grown hg1 zl (fun k e=>by cases e);have hs1:w.heap.size<w1.heap.size:=(hown1.lt _ rfl).2;clear hown1 hg1)
 go_loopw [11] (fun i wr=>∃ k:Nat,k≤n∧i=.int .i64 k∧Hid (TabIn wr w.heap.size n k E)∧Hid (Below w.heap.size w wr)∧w.heap.size<wr.heap.size) (fun i _=>n-(intOf i).toNat)
 case atStart=>exact⟨0,by omega,rfl,HT1.out,HB1.out,hs1⟩
 case round =>
  clear HT1 HB1 hs1;obtain⟨k,hk,rfl,HT,HB,hs⟩:=hrel;by_cases hlt:k<n
  ·have hd1:decide ((k:Int)<(n:Int))=true:=by simp;omega
   have p1:(0:Int)≤(k:Int):=by omega
   have p2:(k:Int)<(n:Int):=by omega
   have HCK:=zh (HC.out k hlt wr HB.out);go_wp2_with fail;refine HCK.out.mono ?_;rintro e w5 ⟨rfl,hb5⟩;have HB5:=zh hb5;clear hb5;have HT5:=zh (HT.out.below HB5.out hs);have hs5:w.heap.size<w5.heap.size:=by have:=HB5.out.size;omega
   have HSE:Hid ((hvA (E k)).size=16):=by show _=_;simp[hvA,(HE.out k).1]
   go_wp2_with (refine wpList_store_mid rfl 42 _ _ rfl w.heap.size (k*16) (hvA (E k)) rfl rfl (by rw[HSE.out];exact HT5.out.at_ hlt) (aI (HE.out k)) (cM _) ?_;generalize hw7:World.setCells w5 _ _ _=w7;have HT7:Hid (TabIn w7 w.heap.size n (k+1) E):=(by rw[←hw7];exact HT5.out.put HE.out hlt);have HB7:Hid (Bw w w7):=(by rw[←hw7];exact dW zl _ _ _ (HB.out.trans (HB5.out.mono zo)));have hs7:w.heap.size<w7.heap.size:=(by rw[←hw7,hZ];exact hs5);clear hw7)
   go_roundw
   case rel=>exact⟨k+1,by omega,by go_num,HT7,HB7,hs7⟩
   case measure=>simp[intOf];omega
  ·obtain rfl:k=n:=by omega
   have hd1:decide ((k:Int)<(k:Int))=false:=by simp
   go_wp2_with fail;go_ret;exact⟨rfl,HT.out.ownHv HE.out zl hn,HB.out⟩
theorem DA (F:FuncId) (p0 p1 n:Nat) (E:Nat→List Int) (w:World) (hE:∀ i,H16 (E i)) (hn:n≤1000000) (eg:∀ args w,(callFunc F args).run Tryz.prog w=.ok (.enter F args) w)
 (hC:∀ k,k<n→∀ w':World,Below w.heap.size w w'→Calls Tryz.prog F #[.int .i64 (k:Int),.pointer (some ⟨p0,0,none⟩),.pointer (some ⟨p1,0,none⟩)] w' fun e w''=>e=.returned (.agg (hvA (E k)))∧Below w'.heap.size w' w'') :
 Calls Tryz.prog 128 #[.int .i64 n,.func (.func F) #[] #[.pointer (some ⟨p0,0,none⟩),.pointer (some ⟨p1,0,none⟩)]] w fun e w'=>e=.returned (.slice (some ⟨w.heap.size,0,none⟩) n n)∧OwnHv w' w.heap.size (.slice (some ⟨w.heap.size,0,none⟩) n n) ((List.range n).map E)∧Below w.heap.size w w':=by
 have HE:=zh hE;have HC:=zh hC;clear hE hC;obtain⟨i0,hi0,hz0,hz1,hz2⟩:=bF pQ;have HI0:=zh hi0;have HZ0:=zh hz0;have HZ1:=zh hz1;have HZ2:=zh hz2;clear hi0 hz0 hz1 hz2
 go_enter Tryz.func128,Tryz.ntmps128
 go_wp2_with (refine wpList_make_full _ rfl _ _ 46 rfl w.heap.size 42 i0 _ 16 Tryz.underlying46 HI0.out HZ0.out HZ1.out .i64 .i64 _ _ n rfl rfl rfl rfl (by rw[HZ2.out];omega) (by unfold maxLen;omega) zl ?_;intro w1 hown1 hg1;have HT1:Hid (TabIn w1 w.heap.size n 0 E):=TabIn.own hown1 (by simp[madeCells]);have HB1:Hid (Bw w w1):=(Below.refl _ w).grown hg1 zl (fun k e=>by cases e);have hs1:w.heap.size<w1.heap.size:=(hown1.lt _ rfl).2;clear hown1 hg1)
 go_loopw [11] (fun i wr=>∃ k:Nat,k≤n∧i=.int .i64 k∧Hid (TabIn wr w.heap.size n k E)∧Hid (Below w.heap.size w wr)∧w.heap.size<wr.heap.size) (fun i _=>n-(intOf i).toNat)
 case atStart=>exact⟨0,by omega,rfl,HT1.out,HB1.out,hs1⟩
 case round =>
  clear HT1 HB1 hs1;obtain⟨k,hk,rfl,HT,HB,hs⟩:=hrel;by_cases hlt:k<n
  ·have hd1:decide ((k:Int)<(n:Int))=true:=by simp;omega
   have p1:(0:Int)≤(k:Int):=by omega
   have p2:(k:Int)<(n:Int):=by omega
   have HCK:=zh (HC.out k hlt wr HB.out);go_wp2_with fail;refine HCK.out.mono ?_;rintro e w5 ⟨rfl,hb5⟩;have HB5:=zh hb5;clear hb5;have HT5:=zh (HT.out.below HB5.out hs);have hs5:w.heap.size<w5.heap.size:=by have:=HB5.out.size;omega
   have HSE:Hid ((hvA (E k)).size=16):=by show _=_;simp[hvA,(HE.out k).1]
   go_wp2_with (refine wpList_store_mid rfl 42 _ _ rfl w.heap.size (k*16) (hvA (E k)) rfl rfl (by rw[HSE.out];exact HT5.out.at_ hlt) (aI (HE.out k)) (cM _) ?_;generalize hw7:World.setCells w5 _ _ _=w7;have HT7:Hid (TabIn w7 w.heap.size n (k+1) E):=(by rw[←hw7];exact HT5.out.put HE.out hlt);have HB7:Hid (Bw w w7):=(by rw[←hw7];exact dW zl _ _ _ (HB.out.trans (HB5.out.mono zo)));have hs7:w.heap.size<w7.heap.size:=(by rw[←hw7,hZ];exact hs5);clear hw7)
   go_roundw
   case rel=>exact⟨k+1,by omega,by go_num,HT7,HB7,hs7⟩
   case measure=>simp[intOf];omega
  ·obtain rfl:k=n:=by omega
   have hd1:decide ((k:Int)<(k:Int))=false:=by simp
   go_wp2_with fail;go_ret;exact⟨rfl,HT.out.ownHv HE.out zl hn,HB.out⟩
def xA (level index:Int):List Int:=[6,level % 256,lb1 index,lb0 index]
theorem CZ (level index:Int):Byt (xA level index):=fun y hy=>by
 simp only[xA,lb1,lb0,List.mem_cons,List.not_mem_nil,or_false] at hy;rcases hy with rfl | rfl | rfl | rfl <;> omega
structure ThreeH (w:World) (x y:List Int) (w0:World):Prop where
 x:RowIn w0 w.heap.size 42 .u8 x
 y:RowIn w0 (w.heap.size+1) 42 .u8 y
 z:w0.heap[w.heap.size+2]? = some (.cells (Array.replicate 16 (Value.int .u8 0)) 42 (0,0))
 b:Below w.heap.size w w0
 s:w0.heap.size=w.heap.size+3
theorem ThreeH.new (w:World) (x y:List Int):ThreeH w x y (((w.alloc (.cells (hvA x) 42)).alloc (.cells (hvA y) 42)).alloc (.cells (Array.replicate 16 (Value.int .u8 0)) 42)):=by
 have r1:=RowB.new w 42 x;have e1:w.alloc (.cells (x.map (Value.int .u8)).toArray 42)=w.alloc (.cells (hvA x) 42):=rfl;rw[e1] at r1;generalize w.alloc (.cells (hvA x) 42)=w1 at *;have h:=Two.new w1 y;generalize (w1.alloc (.cells (hvA y) 42)).alloc (.cells (Array.replicate 16 (Value.int .u8 0)) 42)=w2 at *;have s1:=r1.s;have hx:=h.x;have hz:=h.z;have hs:=h.s;rw[s1] at hx hz hs;exact⟨r1.r.below h.b zo,hx,hz,r1.b.trans (h.b.mono zo),by omega⟩
theorem FK (level index:Int) (x y:List Int) (w:World) (bt bx by_:Nat) (h1:RowIn w bt 5 .u8 (xA level index)) (h2:RowIn w bx 42 .u8 x) (h3:RowIn w by_ 42 .u8 y)
 (l1:bt<w.heap.size) (l2:bx<w.heap.size) (l3:by_<w.heap.size) (hx:H16 x) (hy:H16 y) (hk:KayIn w) (hk0:4<w.heap.size) :
 Calls Tryz.prog 157 #[.slice (some ⟨w.heap.size,0,none⟩) 3 3] (w.alloc (.cells #[.slice (some ⟨bt,0,none⟩) 4 4,.slice (some ⟨bx,0,none⟩) 16 16,.slice (some ⟨by_,0,none⟩) 16 16] 22)) fun e w'=>e=.returned (.agg (hvA (eX level index x y)))∧Below w.heap.size w w':=by
 have h:=ZW [⟨some ⟨bt,0,none⟩,4,4,xA level index⟩,⟨some ⟨bx,0,none⟩,16,16,x⟩,⟨some ⟨by_,0,none⟩,16,16,y⟩] w (by
  intro q hq;simp only[List.mem_cons,List.not_mem_nil,or_false] at hq;rcases hq with rfl | rfl | rfl
  ·exact bN (L:=xA level index) (cap:=4) h1 (CZ _ _) l1 zl
  ·have:=bN (cap:=16) h2 hx.2 l2 (by rw[hx.1];exact Nat.le_refl _);rw[hx.1] at this;exact this
  ·have:=bN (cap:=16) h3 hy.2 l3 (by rw[hy.1];exact Nat.le_refl _);rw[hy.1] at this;exact this) hk hk0 (by simp only[cat,xA,List.map_cons,List.map_nil,List.flatten_cons,List.flatten_nil,List.length_append,List.length_cons,List.length_nil];rw[hx.1,hy.1];omega) (show 3≤1099511627776 by omega)
 have e:cat [⟨some ⟨bt,0,none⟩,4,4,xA level index⟩,⟨some ⟨bx,0,none⟩,16,16,x⟩,⟨some ⟨by_,0,none⟩,16,16,y⟩]=[6,level % 256,lb1 index,lb0 index]++x++y:=by simp[cat,xA]
 rw[e] at h;exact h
theorem AY (level index:Int) (x y:List Int) (w:World) (bt bx by_:Nat) (h1:RowIn w bt 5 .u8 (xA level index)) (h2:RowIn w bx 42 .u8 x) (h3:RowIn w by_ 42 .u8 y)
 (l1:bt<w.heap.size) (l2:bx<w.heap.size) (l3:by_<w.heap.size) (hx:H16 x) (hy:H16 y) :
 Calls Tryz.prog 139 #[.slice (some ⟨w.heap.size,0,none⟩) 3 3] (w.alloc (.cells #[.slice (some ⟨bt,0,none⟩) 4 4,.slice (some ⟨bx,0,none⟩) 16 16,.slice (some ⟨by_,0,none⟩) 16 16] 22)) fun e w'=>e=.returned (.agg (hvA (eX level index x y)))∧Below w.heap.size w w':=by
 have h:=SQ [⟨some ⟨bt,0,none⟩,4,4,xA level index⟩,⟨some ⟨bx,0,none⟩,16,16,x⟩,⟨some ⟨by_,0,none⟩,16,16,y⟩] w (by
  intro q hq;simp only[List.mem_cons,List.not_mem_nil,or_false] at hq;rcases hq with rfl | rfl | rfl
  ·exact bN (L:=xA level index) (cap:=4) h1 (CZ _ _) l1 zl
  ·have:=bN (cap:=16) h2 hx.2 l2 (by rw[hx.1];exact Nat.le_refl _);rw[hx.1] at this;exact this
  ·have:=bN (cap:=16) h3 hy.2 l3 (by rw[hy.1];exact Nat.le_refl _);rw[hy.1] at this;exact this) (by
  intro q hq;simp only[List.mem_cons,List.not_mem_nil,or_false] at hq;rcases hq with rfl | rfl | rfl <;> (intro h;cases h)) (by simp only[cat,xA,List.map_cons,List.map_nil,List.flatten_cons,List.flatten_nil,List.length_append,List.length_cons,List.length_nil];rw[hx.1,hy.1];omega) (show 3≤1099511627776 by omega)
 have e:cat [⟨some ⟨bt,0,none⟩,4,4,xA level index⟩,⟨some ⟨bx,0,none⟩,16,16,x⟩,⟨some ⟨by_,0,none⟩,16,16,y⟩]=[6,level % 256,lb1 index,lb0 index]++x++y:=by simp[cat,xA]
 rw[e] at h;exact h
theorem nG (level index:Int) (x y:List Int) (w:World) (hx:H16 x) (hy:H16 y) (hk:KayIn w) (hk0:4<w.heap.size) :
 Calls Tryz.prog 136 #[.int .i64 level,.int .i64 index,.agg (hvA x),.agg (hvA y)] w fun e w'=>e=.returned (.agg (hvA (eX level index x y)))∧Below w.heap.size w w':=by
 have HK:=zh hk;clear hk;have HKK:∀ w0,Below w.heap.size w w0→KayIn w0:=fun w0 hb=>HK.out.below hb hk0;have HKK2:=zh HKK;clear HKK;have HX:=zh hx;have HY:=zh hy;clear hx hy;have HT:=zh (ThreeH.new w x y)
 go_enter Tryz.func136,Tryz.ntmps136
 go_wp2_with fail;generalize hw0:World.alloc (World.alloc (World.alloc w _) _) _=w0;have HT0:Hid (ThreeH w x y w0):=by rw[←hw0];exact HT.out
 clear hw0 HT;refine wp_region_held_drew (S:=fun w'=>True) (by kernel_rfl) trivial (fun hHeld=>?_);refine zv 0 rfl ?_;refine zv 1 rfl ?_;refine zv 2 rfl ?_;refine zv 3 rfl ?_;refine zv 4 rfl ?_;refine zv 5 rfl ?_;refine zv 6 rfl ?_;refine zv 8 rfl ?_;refine zv 9 rfl ?_;refine zr 7 rfl (fun K hK=>?_);have HO:=zh (RowB.drew w0 5 (xA level index));go_simp;generalize hw:World.drew (World.alloc w0 _)=w2;have HO2:Hid (RowB w0 5 (xA level index) w2):=by rw[←hw];exact HO.out
 clear hw HO;refine hK.out _ _ trivial fun _=>?_;clear hK K
 try simp only[Act.put,zu]
 have hs2:=HO2.out.s;have hb2:=HO2.out.b;have hz:=HT0.out.s;have HCH:=zh (FK level index x y w2 w0.heap.size w.heap.size (w.heap.size+1) HO2.out.r (HT0.out.x.below hb2 zo) (HT0.out.y.below hb2 zo) zo zo zo HX.out HY.out (HKK2.out _ (HT0.out.b.trans (hb2.mono zo))) zo);have HZ2:Hid (Ah w2 (w.heap.size+2) (Array.replicate 16 (Value.int .u8 0)) 42):=(hb2.block _ zo).trans HT0.out.z;have HB2:Hid (Bw w w2):=HT0.out.b.trans (hb2.mono zo);have hlt2:w.heap.size+2<w2.heap.size:=by omega
 clear hs2 hb2 hz;refine zr 10 rfl (fun K hK=>?_);go_simp;refine hK.out _ _ trivial fun _=>?_;clear hK K
 try simp only[Act.put,zu]
 refine zr 11 rfl (fun K hK=>?_);go_simp
 with_reducible refine HCH.out.mono ?_
 rintro e w6 ⟨rfl,hb6⟩;have HB6:Hid (Bw w2 w6):=hb6;have HZ6:Hid (Ah w6 (w.heap.size+2) (Array.replicate 16 (Value.int .u8 0)) 42):=(hb6.block _ hlt2).trans HZ2.out;clear hb6;go_wp2_with fail;refine hK.out _ _ trivial fun _=>?_;clear hK K
 try simp only[Act.put,zu]
 refine zr 12 rfl (fun K hK=>?_);rw[if_pos (by rfl)];refine wp_store_row 42 _ _ rfl (w.heap.size+2) _ rfl rfl 42 _ HZ6.out (aI (bK _ _ _ _)) (cE (bK _ _ _ _)) (cM _) ?_;refine hK.out _ _ trivial fun _=>?_;clear hK K
 try simp only[Act.put,zu]
 refine zd ?_ _;go_wp2_with fail;exact bodyPost_ret (results_cell_row (P:=Tryz.prog) rfl _ _ (w.heap.size+2) 42 _ (0,0) _ rfl (setRow_heap _ _ _ _ _ _ HZ6.out) Tryz.underlying42 rfl (aI (bK _ _ _ _))) rfl ⟨rfl,below_setRow (HB2.out.trans (HB6.out.mono zo)) zo _⟩
theorem KJ (level index:Int) (x y:List Int) (w:World) (hx:H16 x) (hy:H16 y) :
 Calls Tryz.prog 112 #[.int .i64 level,.int .i64 index,.agg (hvA x),.agg (hvA y)] w fun e w'=>e=.returned (.agg (hvA (eX level index x y)))∧Below w.heap.size w w':=by
 skip
 have HX:=zh hx;have HY:=zh hy;clear hx hy;have HT:=zh (ThreeH.new w x y)
 go_enter Tryz.func112,Tryz.ntmps112
 go_wp2_with fail;generalize hw0:World.alloc (World.alloc (World.alloc w _) _) _=w0;have HT0:Hid (ThreeH w x y w0):=by rw[←hw0];exact HT.out
 clear hw0 HT;refine wp_region_held_drew (S:=fun w'=>True) (by kernel_rfl) trivial (fun hHeld=>?_);refine zv 0 rfl ?_;refine zv 1 rfl ?_;refine zv 2 rfl ?_;refine zv 3 rfl ?_;refine zv 4 rfl ?_;refine zv 5 rfl ?_;refine zv 6 rfl ?_;refine zv 8 rfl ?_;refine zv 9 rfl ?_;refine zr 7 rfl (fun K hK=>?_);have HO:=zh (RowB.drew w0 5 (xA level index));go_simp;generalize hw:World.drew (World.alloc w0 _)=w2;have HO2:Hid (RowB w0 5 (xA level index) w2):=by rw[←hw];exact HO.out
 clear hw HO;refine hK.out _ _ trivial fun _=>?_;clear hK K
 try simp only[Act.put,zu]
 have hs2:=HO2.out.s;have hb2:=HO2.out.b;have hz:=HT0.out.s;have HCH:=zh (AY level index x y w2 w0.heap.size w.heap.size (w.heap.size+1) HO2.out.r (HT0.out.x.below hb2 zo) (HT0.out.y.below hb2 zo) zo zo zo HX.out HY.out);have HZ2:Hid (Ah w2 (w.heap.size+2) (Array.replicate 16 (Value.int .u8 0)) 42):=(hb2.block _ zo).trans HT0.out.z;have HB2:Hid (Bw w w2):=HT0.out.b.trans (hb2.mono zo);have hlt2:w.heap.size+2<w2.heap.size:=by omega
 clear hs2 hb2 hz;refine zr 10 rfl (fun K hK=>?_);go_simp;refine hK.out _ _ trivial fun _=>?_;clear hK K
 try simp only[Act.put,zu]
 refine zr 11 rfl (fun K hK=>?_);go_simp
 with_reducible refine HCH.out.mono ?_
 rintro e w6 ⟨rfl,hb6⟩;have HB6:Hid (Bw w2 w6):=hb6;have HZ6:Hid (Ah w6 (w.heap.size+2) (Array.replicate 16 (Value.int .u8 0)) 42):=(hb6.block _ hlt2).trans HZ2.out;clear hb6;go_wp2_with fail;refine hK.out _ _ trivial fun _=>?_;clear hK K
 try simp only[Act.put,zu]
 refine zr 12 rfl (fun K hK=>?_);rw[if_pos (by rfl)];refine wp_store_row 42 _ _ rfl (w.heap.size+2) _ rfl rfl 42 _ HZ6.out (aI (bK _ _ _ _)) (cE (bK _ _ _ _)) (cM _) ?_;refine hK.out _ _ trivial fun _=>?_;clear hK K
 try simp only[Act.put,zu]
 refine zd ?_ _;go_wp2_with fail;exact bodyPost_ret (results_cell_row (P:=Tryz.prog) rfl _ _ (w.heap.size+2) 42 _ (0,0) _ rfl (setRow_heap _ _ _ _ _ _ HZ6.out) Tryz.underlying42 rfl (aI (bK _ _ _ _))) rfl ⟨rfl,below_setRow (HB2.out.trans (HB6.out.mono zo)) zo _⟩
def lvN (h:Nat):Int:=((2 ^ h:Nat):Int)
theorem eM (h:Nat) (w:World) (hh:h≤6) :
 Calls Tryz.prog 92 #[.int .i64 h] w fun e w'=>e=.returned (.int .i64 (lvN h))∧w=w':=by
 have hc:h=0∨h=1∨h=2∨h=3∨h=4∨h=5∨h=6:=by omega
 clear hh;rcases hc with rfl | rfl | rfl | rfl | rfl | rfl | rfl
 all_goals
  go_enter Tryz.func92,Tryz.ntmps92
  go_wp2
  go_ret;exact⟨rfl,rfl⟩
def eI (h:Int):Bool:=decide (0≤h∧h≤6)
theorem dO (h:Int) (w:World) :
 Calls Tryz.prog 91 #[.int .i64 h] w fun e w'=>e=.returned (.bool (eI h))∧w=w':=by
 by_cases h0:0≤h
 ·have hd0:decide (0≤h)=true:=by simp;exact h0
  by_cases h6:h≤6
  ·have hd6:decide (h≤6)=true:=by simp;exact h6
   have HR:Hid (eI h=true):=by show _=_;unfold eI;simp;exact⟨h0,h6⟩
   rw[HR.out]
   go_enter Tryz.func91,Tryz.ntmps91
   go_wp2
   go_ret;exact⟨rfl,rfl⟩
  ·have hd6:decide (h≤6)=false:=by simp;omega
   have HR:Hid (eI h=false):=by show _=_;unfold eI;simp;omega
   rw[HR.out]
   go_enter Tryz.func91,Tryz.ntmps91
   go_wp2
   go_ret;exact⟨rfl,rfl⟩
 ·have hd0:decide (0≤h)=false:=by simp;omega
  have HR:Hid (eI h=false):=by show _=_;unfold eI;simp;omega
  rw[HR.out]
  go_enter Tryz.func91,Tryz.ntmps91
  go_wp2
  go_ret;exact⟨rfl,rfl⟩
structure Zro (w w0:World):Prop where
 z:w0.heap[w.heap.size]? = some (.cells (Array.replicate 16 (Value.int .u8 0)) 42 (0,0))
 b:Below w.heap.size w w0
 s:w0.heap.size=w.heap.size+1
theorem Zro.new (w:World):Zro w (w.alloc (.cells (Array.replicate 16 (Value.int .u8 0)) 42)):=⟨heap_alloc_new w _,aA _ _,aF _ _⟩
theorem VM (x:List Int) (i p:Nat) (w:World) (hs:H16 x) (hp:w.heap[p]? = some (.cells (hvA x) 42 (0,0))) (hk:KayIn w) (hk0:4<w.heap.size) :
 Calls Tryz.prog 131 #[.int .i64 (i:Int),.pointer (some ⟨p,0,none⟩)] w fun e w'=>e=.returned (.agg (hvA (iR x 0 i)))∧Below w.heap.size w w':=by
 have HS:=zh hs;have HP:=zh hp;have HK:=zh hk;have hpl:p<w.heap.size:=(Array.getElem?_eq_some_iff.1 hp).1;clear hs hp hk;have HT:=zh (Zro.new w)
 go_enter Tryz.func131,Tryz.ntmps131
 go_wp2_with (generalize hw0:World.alloc w _=w0;have HT0:Hid (Zro w w0):=(by rw[←hw0];exact HT.out);have HPR:=zh ((HT0.out.b.block _ hpl).trans HP.out);clear hw0 HT;refine wpList_load_row rfl 42 _ rfl p rfl 42 _ (0,0) _ HPR.out Tryz.underlying42 rfl (aI HS.out) ?_)
 have hs0:=HT0.out.s;have HK0:=zh (HK.out.below HT0.out.b hk0);refine (GA x i w0 HS.out HK0.out zo).mono ?_;rintro e w1 ⟨rfl,hb1⟩;have HZ1:Hid (Ah w1 w.heap.size (Array.replicate 16 (Value.int .u8 0)) 42):=(hb1.block _ zo).trans HT0.out.z;have HB1:Hid (Bw w w1):=HT0.out.b.trans (hb1.mono zo);clear hb1 hs0
 go_wp2_with (refine wpList_store_row rfl 42 _ _ rfl w.heap.size _ rfl rfl 42 _ HZ1.out (aI (fE _ _)) (cE (fE _ _)) (cM _) ?_)
 exact bodyPost_ret (results_cell_row (P:=Tryz.prog) rfl _ _ w.heap.size 42 _ (0,0) _ rfl (setRow_heap _ _ _ _ _ _ HZ1.out) Tryz.underlying42 rfl (aI (fE _ _))) rfl ⟨rfl,below_setRow HB1.out zl _⟩
theorem PW (k i n cap p q sb so:Nat) (l:List (List Int)) (w:World) (hp:w.cell? ⟨p,0,none⟩=some (.int .i64 (k:Int))) (hpl:p<w.heap.size) (hq:w.cell? ⟨q,0,none⟩=some (.slice (some ⟨sb,so,none⟩) n cap)) (hql:q<w.heap.size)
 (hl:HvsIn w w.heap.size (some ⟨sb,so,none⟩) n cap l) (hi:2*i+1<n) (hn:n≤1000000) (hk:KayIn w) (hk0:4<w.heap.size) :
 Calls Tryz.prog 162 #[.int .i64 (i:Int),.pointer (some ⟨p,0,none⟩),.pointer (some ⟨q,0,none⟩)] w fun e w'=>e=.returned (.agg (hvA (eX (k:Int) (i:Int) (l.getD (2*i) []) (l.getD (2*i+1) []))))∧Below w.heap.size w w':=by
 have HP:=zh hp;have HQ:=zh hq;have HK:=zh hk;have eR:=zh (hl.at16 (i:=2*i) zo);have cQ:=zh (hl.at16 (i:=2*i+1) hi);have hsb:sb<w.heap.size:=by obtain⟨b,o,e,h,_⟩:=hl.cells zo;injection e with e;injection e with e1 e2;omega
 have HXR:Hid (w.rangeAt sb (so+2*i*16) ((l.getD (2*i) []).map (Value.int .u8))):=by
  obtain⟨b,o,e,h,_,hr⟩:=hl.cells zo;injection e with e;injection e with e1 e2;subst e1 e2;exact hr (2*i) zo
 have HYR:Hid (w.rangeAt sb (so+(2*i+1)*16) ((l.getD (2*i+1) []).map (Value.int .u8))):=by
  obtain⟨b,o,e,h,_,hr⟩:=hl.cells zo;injection e with e;injection e with e1 e2;subst e1 e2;exact hr (2*i+1) hi
 clear hp hq hk hl;generalize l.getD (2*i) []=x at *;generalize l.getD (2*i+1) []=y at *;have HIX:=zh (bS eR.out);have HIY:=zh (bS cQ.out);have HT:=zh (Zro.new w)
 go_enter Tryz.func162,Tryz.ntmps162
 go_wp2_with fail;generalize hw0:World.alloc w _=w0;have HT0:Hid (Zro w w0):=by rw[←hw0];exact HT.out
 clear hw0 HT;have hs0:w.heap.size<w0.heap.size:=by have:=HT0.out.s;omega
 have HK0:=zh (HK.out.below HT0.out.b hk0);have hk00:4<w0.heap.size:=by omega
 have HJC:=zh (fun w' (hb:Below w0.heap.size w0 w')=>(show Calls Tryz.prog 136 #[.int .i64 (k:Int),.int .i64 (i:Int),.agg (x.map (Value.int .u8)).toArray,.agg (y.map (Value.int .u8)).toArray] w' fun e w''=>e=.returned (.agg (hvA (eX (k:Int) (i:Int) x y)))∧Below w'.heap.size w' w'' from nG k i x y w' eR.out cQ.out (HK0.out.below hb hk00) (by have:=hb.size;omega)));have m1:IntKind.i64.wrap (2*(i:Int))=2*(i:Int):=IntWalk.i64_in _ zo;have m2:IntKind.i64.wrap (2*(i:Int)+1)=2*(i:Int)+1:=IntWalk.i64_in _ zo;have q1:(0:Int)≤2*(i:Int):=by omega
 have q2:2*(i:Int)<(n:Int):=by omega
 have q3:(0:Int)≤2*(i:Int)+1:=by omega
 have q4:2*(i:Int)+1<(n:Int):=by omega
 have t1:(2*(i:Int)).toNat=2*i:=by omega
 have t2:(2*(i:Int)+1).toNat=2*i+1:=by omega
 refine wp_region_held_drew (S:=fun w'=>Below w.heap.size w w') (by kernel_rfl) HT0.out.b.drew (fun hHeld=>?_);refine zx 0 rfl (v:=?_) ?_ ?_;rotate_left
 ·intro w' hSw;have c1:=(hSw.cell (p:=⟨p,0,none⟩) hpl).trans HP.out;go_simp;try with_reducible rfl
 refine zv 1 rfl ?_;refine zx 2 rfl (v:=?_) ?_ ?_;rotate_left
 ·intro w' hSw;have c1:=(hSw.cell (p:=⟨q,0,none⟩) hql).trans HQ.out;go_simp;try with_reducible rfl
 refine zv 3 rfl ?_;refine zv 4 rfl ?_;refine zv 5 rfl ?_;refine' zk 6 rfl (v:=_) (yieldsIf_load_mid (by rfl) _ _ rfl _ _ rfl _ _ ?hS6n7 Tryz.underlying42 rfl HIX.out) ?rest6n7
 case hS6n7 =>
  intro w' hSw;exact aB HXR.out hSw hsb
 try simp only[Act.put,zu]
 refine zx 7 rfl (v:=?_) ?_ ?_;rotate_left
 ·intro w' hSw;have c1:=(hSw.cell (p:=⟨q,0,none⟩) hql).trans HQ.out;go_simp;try with_reducible rfl
 refine zv 8 rfl ?_;refine zv 9 rfl ?_;refine zv 10 rfl ?_;refine zv 11 rfl ?_;refine' zk 12 rfl (v:=_) (yieldsIf_load_mid (by rfl) _ _ rfl _ _ rfl _ _ ?hS12n13 Tryz.underlying42 rfl HIY.out) ?rest12n13
 case hS12n13 =>
  intro w' hSw;exact aB HYR.out hSw hsb
 try simp only[Act.put,zu]
 refine zr 13 rfl (fun K hK=>?_);go_simp
 with_reducible refine (HJC.out _ (Below.refl _ _).drew).mono ?_
 rintro e w6 ⟨rfl,hb⟩;have HB6:Hid (Bw w0 w6):=(Below.refl _ _).drew.trans hb;have HZ6:=zh ((HB6.out.block _ hs0).trans HT0.out.z);have YP:Hid (Bw w w6):=HT0.out.b.trans (HB6.out.mono zo);clear hb;go_wp2_with fail;refine hK.out _ _ YP.out fun _=>?_;clear hK K
 try simp only[Act.put,zu]
 refine zr 14 rfl (fun K hK=>?_);rw[if_pos (by rfl)];refine wp_store_row 42 _ _ rfl w.heap.size _ rfl rfl 42 _ HZ6.out (aI (bK _ _ _ _)) (cE (bK _ _ _ _)) (cM _) ?_
 skip
 refine hK.out _ _ (below_setRow YP.out zl _) fun _=>?_;clear hK K
 try simp only[Act.put,zu]
 refine zd ?_ _;go_wp2_with fail;exact bodyPost_ret (results_cell_row (P:=Tryz.prog) rfl _ _ w.heap.size 42 _ (0,0) _ rfl (setRow_heap _ _ _ _ _ _ HZ6.out) Tryz.underlying42 rfl (aI (bK _ _ _ _))) rfl ⟨rfl,below_setRow (HT0.out.b.trans (HB6.out.mono zo)) zl _⟩
structure HPt where
 sp:Option Addr
 n:Nat
 cap:Nat
def HPt.val (q:HPt):Value:=.slice q.sp q.n q.cap
def aAh (w:World) (base:Nat) (v:Value) (ps:List HPt):Prop:=w.ownsRow base 46 1 v ps.length (ps.map HPt.val)
theorem ZN:(Tryz.prog.info? 46).map (fun i=>(i.zero,i.size,i.bytes))=some (some (.slice none 0 0),1,24):=by kernel_rfl
theorem NC (w:World) (x:Value):∀ j u,[x][j]? = some u→(w.alloc (.cells #[x] 46)).cell? ((⟨w.heap.size,0,none⟩:Addr).add j)=some u:=by
 intro j u hj;rw[Addr.add_mid,Nat.zero_add,cell_of_row _ w.heap.size j _ _ (0,0) (heap_alloc_new w _)];simpa using hj
theorem qD {w:World} {ops:Array Oper} {rest:List Oper} {o:Oper} {a:Act} {Q:Exit→Act→World→Prop} (hgd:o.guard=none) (s x:Operand) (ho:o.op=.call { callee:=.builtin .append,args:=#[s,x],argTypes:=#[132,132] })
 (base:Nat) (v:Value) (ps:List HPt) (hs:a.eval s=v) (hown:aAh w base v ps) (q:HPt) (hx:a.eval x=.slice (some ⟨w.heap.size,0,none⟩) 1 1)
 (hlen:ps.length≤1000000000) (hbase:base≤w.heap.size)
 (h:∀ v' w',Hid (aAh w' base v' (ps++[q]))→Hid (Below base w w')→Hid ((w.alloc (.cells #[q.val] 46)).grownBy w' v.ownBlock)→wpList Tryz.prog ops Q rest (a.put o.dst v') w'):wpList Tryz.prog ops Q (o :: rest) a (w.alloc (.cells #[q.val] 46)):=by
 obtain⟨i0,hi0,hz0,hz1,hz2⟩:=bF ZN;refine wpList_append_own _ hgd s x _ ho base _ i0 _ 1 24 Tryz.underlying132 hi0 hz0 hz1 hz2 rfl (by decide) v ps.length _ hs (World.ownsRow.alloc hown _) ⟨w.heap.size,0,none⟩ 1 1 [q.val] hx rfl (NC w q.val) (by intro u hu;simp at hu;subst hu;rfl) (by unfold maxLen;omega) zo (by simp;omega) ?_;intro v' w' h1 h2 _;refine h v' w' ?_ ?_ h2
 ·show w'.ownsRow _ _ _ _ _ _;rw[List.map_append,List.length_append];exact h1
 ·exact ((Below.refl base w).alloc hbase _).grown h2 (by simp;omega) (bO hown)
structure LvsIn (w:World) (B g m:Nat) (L:Nat→List (List Int)):Prop where
 lt:g<B
 at_:∀ k,k<m→∃ sp n cap,w.cell? ⟨g,k,none⟩=some (.slice sp n cap)∧HvsIn w B sp n cap (L k)
theorem LvsIn.below {w w':World} {B B' g m:Nat} {L:Nat→List (List Int)} (h:LvsIn w B g m L) (hb:Below B' w w') (hB:B≤B'):LvsIn w' B' g m L :=
 ⟨by have:=h.lt;omega,fun k hk=>by
  have hl:=h.lt;obtain⟨sp,n,cap,hc,hh⟩:=h.at_ k hk;exact⟨sp,n,cap,(hb.cell (p:=⟨g,k,none⟩) (by show g<B';omega)).trans hc,hh.below hb hB⟩⟩
def LvsOwn (w:World) (base:Nat) (v:Value) (m:Nat) (L:Nat→List (List Int)):Prop :=
 ∃ ps:List HPt,ps.length=m∧aAh w base v ps∧∀ k (h:k<ps.length),OwnHv w 0 ps[k].val (L k)∧(L k).length=ps[k].n
theorem LvsOwn.one (w:World) {sp:Option Addr} {n cap:Nat} {L:Nat→List (List Int)} {base:Nat} (h:OwnHv w base (.slice sp n cap) (L 0)) (hl:(L 0).length=n):LvsOwn (w.alloc (.cells #[.slice sp n cap] 46)) w.heap.size (.slice (some ⟨w.heap.size,0,none⟩) 1 1) 1 L :=
 ⟨[⟨sp,n,cap⟩],rfl,World.ownsRow_lit w #[.slice sp n cap] 1 zl (by unfold maxLen;omega) rfl,fun k hk=>by
  have e:k=0:=by simp at hk;omega
  subst e;exact⟨(h.base (Nat.zero_le _)).below (aA w _),hl⟩⟩
theorem LvsOwn.below {w w':World} {base:Nat} {v:Value} {m:Nat} {L:Nat→List (List Int)} (h:LvsOwn w base v m L) (hb:Below w.heap.size w w'):LvsOwn w' base v m L:=by
 obtain⟨ps,h1,h2,h3⟩:=h;exact⟨ps,h1,eB h2 hb,fun k hk=>⟨(h3 k hk).1.below hb,(h3 k hk).2⟩⟩
theorem LvsOwn.shape {w:World} {base:Nat} {v:Value} {m:Nat} {L:Nat→List (List Int)} (h:LvsOwn w base v m L) (hm:0<m):∃ g cap,v=.slice (some ⟨g,0,none⟩) m cap∧m≤cap∧LvsIn w w.heap.size g m L:=by
 obtain⟨ps,rfl,h2,h3⟩:=h;obtain⟨_,⟨_,e0⟩ | ⟨g,c,cur,e,hg,h4,h5,h6,h7,h8⟩⟩:=h2
 ·omega
 ·refine⟨g,c,e,h5,(Array.getElem?_eq_some_iff.1 h4).1,fun k hk=>⟨ps[k].sp,ps[k].n,ps[k].cap,?_,?_⟩⟩
  ·rw[cell_of_row w g k _ _ _ h4];have h9:(ps.map HPt.val)[k]? = some ps[k].val:=by rw[List.getElem?_map,List.getElem?_eq_getElem hk];rfl
   rw[←h8,List.getElem?_take,if_pos zo] at h9;refine Eq.trans ?_ (show some ps[k].val=_ from rfl);simpa using h9
  ·have h10:=h3 k hk;exact OwnHv.hvs (cap:=ps[k].cap) h10.1 h10.2
theorem VB {w:World} {b1 b2 e1 e2 s1 s2 n1 n2:Nat} {v1 v2:Value} {x1 x2:List Value} (h1:w.ownsRow b1 e1 s1 v1 n1 x1) (h2:w.ownsRow b2 e2 s2 v2 n2 x2) (hne:e1≠e2):v1.ownBlock=none∨v1.ownBlock≠v2.ownBlock:=by
 obtain⟨_,⟨rfl,_⟩ | ⟨g,cap,cur,rfl,_,hg,_⟩⟩:=h1
 ·exact .inl rfl
 ·obtain⟨_,⟨rfl,_⟩ | ⟨g',cap',cur',rfl,_,hg',_⟩⟩:=h2
  ·exact .inr (by simp[Value.ownBlock])
  ·refine .inr fun e=>?_;have e':g=g':=by simpa [Value.ownBlock] using e
   subst e';rw[hg] at hg';injection hg' with hg'
   injection hg' with h1 h2
   exact hne h2
theorem LvsOwn.snoc {w w':World} {base:Nat} {v v':Value} {m:Nat} {L:Nat→List (List Int)} {ps:List HPt} (hm:ps.length=m) (hq:aAh w base v ps) (h3:∀ k (h:k<ps.length),OwnHv w 0 ps[k].val (L k)∧(L k).length=ps[k].n)
 {q:HPt} {b:Nat} (hn:OwnHv w b q.val (L m)) (hl:(L m).length=q.n) (hw:aAh w' base v' (ps++[q])) (hg:(w.alloc (.cells #[q.val] 46)).grownBy w' v.ownBlock):LvsOwn w' base v' (m+1) L:=by
 have hk:∀ u l,OwnHv w 0 u l→OwnHv w' 0 u l:=fun u l h=>⟨World.ownsRow.kept (World.ownsRow.alloc h.1 _) hg (VB (w:=w) h.1 hq (by decide)),h.2⟩;subst hm;refine⟨ps++[q],by simp,hw,fun k hk'=>?_⟩;by_cases e:k<ps.length
 ·rw[List.getElem_append_left e];exact⟨hk _ _ (h3 k e).1,(h3 k e).2⟩
 ·have e2:k=ps.length:=by simp at hk';omega
  subst e2;simp only[List.getElem_append_right zl,Nat.sub_self,List.getElem_cons_zero];exact⟨hk _ _ (hn.base (Nat.zero_le _)),hl⟩
end Go.Proofs.YtaeobegaodhpcaaGreatDoor
