/-
  Digests as values: two of them compared, read and put into structs and slices (condition: digests have 32 bytes).
-/
import Derived.Test.YtaeobegaodhpcaaGreatDoorZip
import Derived.Test.YtaeobegaodhpcaaGreatDoorQ2
import Derived.Laws.Tables
import Derived.Great.BuildSlice
import Derived.Test.YtaeobegaodhpcaaGreatDoorChecked
import Derived.RangeFuncNested
import Derived.OwnWalkIn
import Derived.TacticsInMore
import Derived.LoopNIn
import Derived.LoopIn
import Derived.RangeFuncFrom
import Derived.Shelf.Abstract
import Derived.RangeFuncBox
import Derived.RangeFuncCalls
import Derived.RangeFuncLeaves
import Derived.RangeFuncKeeps
set_option maxRecDepth 100000
set_option maxHeartbeats 8000000
namespace Go.Proofs.YtaeobegaodhpcaaGreatDoor
open Go.RowKit
def D32 (l:List Int):Prop:=l.length=32∧∀ x ∈ l,0≤x∧x<256
theorem D32.zed:D32 zed:=⟨rfl,fun x hx=>by rw[List.eq_of_mem_replicate hx];omega⟩
theorem zF:(Tryz.prog.info? 77).map (·.size)=some 32:=by kernel_rfl
def dgA (d:List Int):Array Value:=(d.map (Value.int .u8)).toArray
theorem rX (L:List Int) (i:Nat) (h:i<L.length):(L.map (Value.int .u8))[i]? = some (.int .u8 (L.getD i 0)):=by
 rw[List.getElem?_map,List.getElem?_eq_getElem h,List.getD_eq_getElem?_getD,List.getElem?_eq_getElem h];rfl
theorem tR (L:List Int) (i:Nat) (h:i<L.length) (w:World):(part 5 (dgA L) (i*1)).run Tryz.prog w=.ok (.int .u8 (L.getD i 0)) w:=by
 have hu:(underlying 5).run Tryz.prog w=.ok (.int .u8) w:=run_underlying Tryz.underlying5 w;have hg:=rX L i h;simp[part,isAgg,hu,dgA,hg]
theorem QW (d:Nat) (a b:Int) (w:World):(Op.equalIn (d+1) 5 (.int .u8 a) (.int .u8 b)).run Tryz.prog w=.ok (a == b) w:=by
 simp[Op.equalIn,run_underlying Tryz.underlying5]
theorem zU (d:Nat) (X Y:List Int):∀ (is:List Nat) (w:World),(∀ i ∈ is,i<X.length∧i<Y.length) →
 (Op.eqItems (d+1) 5 1 (dgA X) (dgA Y) is).run Tryz.prog w=.ok (is.all fun i=>X.getD i 0 == Y.getD i 0) w
 | [],w,_=>by simp[Op.eqItems]
 | i :: is, w, h => by
   have hi:=h i (by simp);have ih:=zU d X Y is w (fun j hj=>h j (by simp[hj]));simp only[Op.eqItems,Sem.run_bind,tR X i hi.1,tR Y i hi.2,QW,Result.andThen_ok]
   cases hx:(X.getD i 0 == Y.getD i 0)
   ·rw[List.all_cons,hx];simp
   ·rw[List.all_cons,hx];simpa using ih
theorem wJ (X Y:List Int) (h:X.length=Y.length):((List.range X.length).all fun i=>X.getD i 0 == Y.getD i 0)=decide (X=Y):=by
 by_cases e:X=Y
 ·subst e;simp
 ·simp only[e,decide_false];rw[Bool.eq_false_iff];intro ha;refine e (List.ext_getElem h fun i h1 h2=>?_);have:=List.all_eq_true.1 ha i (by simpa using h1);simpa [List.getD_eq_getElem?_getD,List.getElem?_eq_getElem h1,List.getElem?_eq_getElem h2] using this
theorem WD (dep:Nat) (X Y:List Int) (hX:X.length=32) (hY:Y.length=32) (w:World):(Op.equalIn (dep+2) 77 (.agg (dgA X)) (.agg (dgA Y))).run Tryz.prog w=.ok (decide (X=Y)) w:=by
 have hc:Tryz.prog.cellsOf 5=1:=by kernel_rfl
 obtain⟨i,hi⟩:∃ i,Tryz.prog.info? 5=some i:=Option.isSome_iff_exists.1 (by kernel_rfl);have h:=run_equalIn_array (P:=Tryz.prog) w (dep+1) (dgA X) (dgA Y) Tryz.underlying77 hi;rw[hc] at h;have e:=zU dep X Y (List.range 32) w (fun j hj=>by rw[hX,hY];simpa using hj);have r:=wJ X Y zo;rw[hX] at r;rw[r] at e;rw[e] at h;exact h
theorem eqlD (X Y:List Int) (hX:X.length=32) (hY:Y.length=32) (w:World) :
 (binOp .eql 77 (.agg (X.map (Value.int .u8)).toArray) (.agg (Y.map (Value.int .u8)).toArray)).run Tryz.prog w=.ok (.bool (decide (X=Y))) w:=by
 have h:(Op.equalIn 10000 77 (.agg (X.map (Value.int .u8)).toArray) (.agg (Y.map (Value.int .u8)).toArray)).run Tryz.prog w=.ok (decide (X=Y)) w:=WD 9998 X Y hX hY w;simp only[binOp];simp[Op.equal,Op.maxDepth,h]
theorem mZ {w:World} {b t:Nat} {fz:Nat × Nat} {cs pre sub post:List Value} {o:Nat} (h:w.heap[b]? = some (.cells cs.toArray t fz)) (e:cs=pre++(sub++post)) (ho:o=pre.length):w.rangeAt b o sub:=by
 intro j v hv;have hj:=(List.getElem?_eq_some_iff.1 hv).1;show w.cell? ⟨b,o+j,none⟩=some v;rw[cell_of_row w b (o+j) cs.toArray t fz h,e,ho,List.getElem?_toArray,List.getElem?_append_right zo,Nat.add_sub_cancel_left,List.getElem?_append_left hj,hv]
theorem DV {d:List Int} (h:D32 d):(Tryz.prog.info? 77).map (·.size)=some (d.map (Value.int .u8)).length:=by rw[List.length_map,h.1];exact zF
theorem aK (w:World) (old cells:Array Value) (t:TypeId):(w.alloc (.cells old t)).setRow w.heap.size cells=w.alloc (.cells cells t):=by
 unfold World.setRow World.alloc;congr 1;apply Array.ext
 ·simp
 ·intro i h1 h2;rw[Array.getElem_modify];by_cases e:w.heap.size=i
  ·subst e;simp
  ·have hi:i<w.heap.size:=by simp at h2;omega
   simp[e,Array.getElem_push,hi]
/-! ### structs put together -/
theorem EC (off:Nat):∀ (vs pre old post:List Value) (k:Nat),off+k=pre.length→old.length=vs.length →
 (vs.zipIdx k).foldl (fun cs (x:Value × Nat)=>cs.setIfInBounds (off+x.2) x.1) (pre++(old++post)).toArray=(pre++(vs++post)).toArray
 | [], pre, old, post, k, _, ho => by
   have:old=[]:=List.eq_nil_of_length_eq_zero ho;subst this;rfl
 | v :: vs, pre, o :: old, post, k, hk, ho => by
   rw[List.zipIdx_cons,List.foldl_cons];have h1:(pre++(o :: old++post)).toArray.setIfInBounds (off+k) v=((pre++[v])++(old++post)).toArray:=by
    rw[List.setIfInBounds_toArray,hk,List.cons_append,List.set_append_right _ _ zl,Nat.sub_self,List.set_cons_zero,List.append_assoc];rfl
   show List.foldl _ ((pre++(o :: old++post)).toArray.setIfInBounds (off+k) v) _=_;rw[h1,EC off vs (pre++[v]) old post (k+1) (by rw[List.length_append];show off+(k+1)=pre.length+1;omega) (by simpa using ho),List.append_assoc];rfl
theorem jP {place:Nat→Option (Nat × Nat)} {i off sz:Nat} {v:Value} {rest:List (Nat × Value)} (vs pre old post:List Value) (hp:place i=some (off,sz)) (hv:v.cells=vs.toArray) (hl:vs.length=sz) (ho:off=pre.length) (hold:old.length=sz) :
 Instr.fill place (pre++(old++post)).toArray ((i,v) :: rest)=Instr.fill place (pre++(vs++post)).toArray rest:=by
 rw[Instr.fill,hp];show (if v.cells.size≠sz || off+v.cells.size>(pre++(old++post)).toArray.size then none else _)=_;rw[if_neg (by rw[hv];simp;omega)];congr 1;rw[hv,←Array.foldl_toList,Array.toList_zipIdx];exact EC off vs pre old post 0 zo zo
theorem pC {P:Program} {t:TypeId} {fields:Array Field} {z:Value} {places:List (Nat × Nat)} {parts:List (Nat × Value)} (hi:(P.info? t).map (·.zero)=some (some z)) (hu:P.underlying t=some (.struct fields))
 (hp:fields.toList.mapM (fun f=>(P.info? f.type).map fun i=>(f.offset,i.size))=some places):P.built t parts=Instr.fill (places.toArray[·]?) z.cells parts:=by
 cases h:P.info? t with
 | none=>rw[h] at hi;cases hi
 | some it =>
   rw[h] at hi;have hz:it.zero=some z:=by injection hi
   unfold Program.built;simp only[h,hu,hz,hp]
theorem rG (w:World) (t e:TypeId) (cs:List Value) (ie:TypeInfo) (z:Value) (hu:Tryz.prog.underlying t=some (.slice e)) (hie:Tryz.prog.info? e=some ie) (hz:ie.zero=some z) (hs:ie.size=cs.length) (h0:0<cs.length) (h1:cs.length≤1000) :
 (Instr.buildSlice t 1 #[(0,.agg cs.toArray)]).run Tryz.prog w=.ok (.slice (some ⟨w.heap.size,0,none⟩) 1 1) (w.alloc (.cells cs.toArray e)):=by
 refine run_buildSlice w t e 1 _ _ ie z hu hie hz (by rw[hs];omega) (by rw[hs];omega) ?_;obtain⟨old,hold⟩:∃ old:List Value,old=((Array.range (1*ie.size)).map (z.cells[· % z.cells.size]!)).toList:=⟨_,rfl⟩;have hl:old.length=ie.size:=by rw[hold];simp
 have e1:(Array.range (1*ie.size)).map (z.cells[· % z.cells.size]!)=([]++(old++[])).toArray:=by rw[hold,List.nil_append,List.append_nil]
 rw[e1];rw[jP cs [] old [] (sz:=ie.size) (off:=0*ie.size) rfl rfl hs.symm (by simp) hl];simp[Instr.fill]
theorem bB {P:Program} {w:World} {ops:Array Oper} {rest:List Oper} {o:Oper} {a:Act} {Q:Exit→Act→World→Prop} (hgd:o.guard=none) (t:TypeId) (parts:List (Nat × Operand)) (ho:o.op=.build t parts.toArray)
 (vs:List (Nat × Value)) (hv:(parts.map fun (i,x)=>(i,a.eval x))=vs) (v:Value) (hrun:(Instr.build t vs.toArray).run P w=.ok v w) (h:wpList P ops Q rest (a.put o.dst v) w):wpList P ops Q (o :: rest) a w :=
 wpList_plain hgd fun _ hK=>by
  unfold Oper.wp execOp;simp only[ho,Sem.run_bind,List.map_toArray,hv,hrun,Result.andThen_ok];exact hK _ _ h
theorem aT {P:Program} {w:World} {ops:Array Oper} {rest:List Oper} {o:Oper} {a:Act} {Q:Exit→Act→World→Prop} (hgd:o.guard=none) (t:TypeId) (n:Nat) (parts:List (Nat × Operand)) (ho:o.op=.buildSlice t n parts.toArray)
 (vs:List (Nat × Value)) (hv:(parts.map fun (i,x)=>(i,a.eval x))=vs) (v:Value) (w':World) (hrun:(Instr.buildSlice t n vs.toArray).run P w=.ok v w') (h:wpList P ops Q rest (a.put o.dst v) w'):wpList P ops Q (o :: rest) a w :=
 wpList_plain hgd fun _ hK=>by
  unfold Oper.wp execOp;simp only[ho,Sem.run_bind,List.map_toArray,hv,hrun,Result.andThen_ok];exact hK _ _ h
theorem aM {w:World} {base e size:Nat} {v:Value} {n:Nat} {xs:List Value} (h:w.ownsRow base e size v n xs):∃ sp cap,v=.slice sp n cap:=by
 obtain⟨_,⟨rfl,h0⟩ | ⟨g,cap,_,rfl,_⟩⟩:=h
 ·subst h0;exact⟨_,_,rfl⟩
 ·exact⟨_,_,rfl⟩
theorem bO {w:World} {base e size:Nat} {v:Value} {n:Nat} {xs:List Value} (h:w.ownsRow base e size v n xs):∀ k,v.ownBlock=some k→base≤k:=by
 intro k hk;obtain⟨_,⟨rfl,_⟩ | ⟨g,cap,_,rfl,hb,_⟩⟩:=h
 ·cases hk
 ·injection hk with hk;subst hk;exact hb
theorem eB {w w':World} {base e size:Nat} {v:Value} {n:Nat} {xs:List Value} (h:w.ownsRow base e size v n xs) (hb:Below w.heap.size w w'):w'.ownsRow base e size v n xs:=by
 obtain⟨hl,h1 | ⟨g,cap,cur,rfl,hbg,hg,rest⟩⟩:=h
 ·exact⟨hl,.inl h1⟩
 ·exact⟨hl,.inr ⟨g,cap,cur,rfl,hbg,(hb.block g (Array.getElem?_eq_some_iff.1 hg).1).trans hg,rest⟩⟩
theorem aB {w w':World} {b o B:Nat} {cs:List Value} (h:w.rangeAt b o cs) (hb:Below B w w') (hlt:b<B):w'.rangeAt b o cs:=fun j v hv=>(hb.cell (p:=⟨b,o+j,none⟩) hlt).trans (h j v hv)
theorem nO {α:Type} (f:α→List Value) (sz:Nat):∀ (l:List α),(∀ x ∈ l,(f x).length=sz)→∀ i x,l[i]? = some x→∀ j v,(f x)[j]? = some v→(l.flatMap f)[i*sz+j]? = some v
 | [],_,i,x,hi,_,_,_=>by simp at hi
 | y :: l, h, 0, x, hi, j, v, hv => by
   have e:y=x:=by simpa using hi
   subst e;have hj:=(List.getElem?_eq_some_iff.1 hv).1;rw[List.flatMap_cons,Nat.zero_mul,Nat.zero_add,List.getElem?_append_left hj,hv]
 | y :: l, h, i + 1, x, hi, j, v, hv => by
   have hy:=h y (by simp);rw[List.flatMap_cons,List.getElem?_append_right (by rw[hy,Nat.add_mul];omega),hy,show (i+1)*sz+j-sz=i*sz+j by rw[Nat.add_mul];omega];exact nO f sz l (fun z hz=>h z (by simp[hz])) i x (by simpa using hi) j v hv
theorem oO {α:Type} {f:α→List Value} {sz:Nat} {w:World} {base e:Nat} {g n cap:Nat} {l:List α} (h:w.ownsRow base e sz (.slice (some ⟨g,0,none⟩) n cap) l.length (l.flatMap f)) (hs:∀ x ∈ l,(f x).length=sz) (hn:l.length=n) :
 g<w.heap.size∧n≤cap∧∀ i x,l[i]? = some x→w.rangeAt g (0+i*sz) (f x):=by
 obtain⟨_,⟨h1,_⟩ | ⟨g',cap',cur,h1,_,hg,hle,_,hsz,htk⟩⟩:=h
 ·cases h1
 ·injection h1 with h1 h2 h3
  injection h1 with h1;injection h1 with h1
  subst h1;subst h3;refine⟨(Array.getElem?_eq_some_iff.1 hg).1,by omega,fun i x hi j v hv=>?_⟩;show w.cell? ⟨g,0+i*sz+j,none⟩=some v;rw[cell_of_row w g _ cur e _ hg,Nat.zero_add];have h4:=nO f sz l hs i x hi j v hv;rw[←htk,List.getElem?_take] at h4
  split at h4
  ·simpa using h4
  ·cases h4
end Go.Proofs.YtaeobegaodhpcaaGreatDoor
namespace Go.Proofs.YtaeobegaodhpcaaGreatDoor
open Go.RowKit Go.Proofs.YtaeobegaodhpcaaGreatDoor.One
def nv (l:List Int):List Value:=l.map (Value.int .i64)
def OwnN (w:World) (base:Nat) (v:Value) (l:List Int):Prop:=w.ownsRow base 3 1 v l.length (nv l)
theorem aG {w:World} {g j:Nat} {L:List Value} {t:TypeId} {fr:Nat × Nat} {v:Value} (hg:w.heap[g]? = some (.cells L.toArray t fr)) (hv:L[j]? = some v):w.cell? ⟨g,j,none⟩=some v:=by
 rw[cell_of_row w g j _ t fr hg];simpa using hv
theorem BL (l:List Int) (x:Int):nv (l++[x])=nv l++[.int .i64 x]:=by simp[nv]
theorem DX:(Tryz.prog.info? 3).map (fun i=>(i.zero,i.size,i.bytes))=some (some (.int .i64 0),1,8):=by kernel_rfl
theorem bF {i:Option TypeInfo} {z:Option Value} {s b:Nat} (h:i.map (fun i=>(i.zero,i.size,i.bytes))=some (z,s,b)):∃ i0,i=some i0∧i0.zero=z∧i0.size=s∧i0.bytes=b:=by
 cases i with
 | none=>cases h
 | some i0=>simp at h;exact⟨i0,rfl,h.1,h.2.1,h.2.2⟩
theorem OwnN.below {w w':World} {base:Nat} {v:Value} {l:List Int} (h:OwnN w base v l) (hb:Below w.heap.size w w'):OwnN w' base v l:=eB h hb
theorem OwnN.base {w:World} {base base':Nat} {v:Value} {l:List Int} (h:OwnN w base v l) (hb:base'≤base):OwnN w base' v l:=by
 obtain⟨h0,h | ⟨g,cap,cur,rfl,hg,h1,h2,h3,h4,h5⟩⟩:=h
 ·exact⟨h0,.inl h⟩
 ·exact⟨h0,.inr ⟨g,cap,cur,rfl,by omega,h1,h2,h3,h4,h5⟩⟩
theorem sE (w:World) (x:Int):∀ j u,[Value.int .i64 x][j]? = some u→(w.alloc (.cells #[.int .i64 x] 3)).cell? ((⟨w.heap.size,0,none⟩:Addr).add j)=some u:=by
 intro j u hj;rw[Addr.add_mid,Nat.zero_add,cell_of_row _ w.heap.size j _ _ (0,0) (heap_alloc_new w _)];simpa using hj
section
variable {w:World} {ops:Array Oper} {rest:List Oper} {o:Oper} {a:Act} {Q:Exit→Act→World→Prop}
theorem bU (hgd:o.guard=none) (s x:Operand) (ho:o.op=.call { callee:=.builtin .append,args:=#[s,x],argTypes:=#[141,141] })
 (base:Nat) (v:Value) (l:List Int) (hs:a.eval s=v) (hown:OwnN w base v l) (y:Int) (hx:a.eval x=.slice (some ⟨w.heap.size,0,none⟩) 1 1)
 (hlen:l.length≤1000000000) (hbase:base≤w.heap.size)
 (h:∀ v' w',Hid (OwnN w' base v' (l++[y]))→Hid (Below base w w')→wpList Tryz.prog ops Q rest (a.put o.dst v') w'):wpList Tryz.prog ops Q (o :: rest) a (w.alloc (.cells #[.int .i64 y] 3)):=by
 obtain⟨i0,hi0,hz0,hz1,hz2⟩:=bF DX;refine wpList_append_own _ hgd s x _ ho base _ i0 _ 1 8 Tryz.underlying141 hi0 hz0 hz1 hz2 rfl (by decide) v l.length _ hs (World.ownsRow.alloc hown _) ⟨w.heap.size,0,none⟩ 1 1 [.int .i64 y] hx rfl (sE w y) (by intro u hu;simp at hu;subst hu;rfl) (by unfold maxLen;omega) zo (by simp;omega) ?_;intro v' w' h1 h2 _;refine h v' w' ?_ ?_
 ·show w'.ownsRow _ _ _ _ _ _;rw[BL,List.length_append];exact h1
 ·exact ((Below.refl base w).alloc hbase _).grown h2 (by simp;omega) (bO hown)
end
theorem wI (x:Int) (h:0≤x∧x≤255):bits .and .u8 x 3=x % 4:=by
 obtain⟨n,rfl⟩:∃ n:Nat,x=n:=⟨x.toNat,by omega⟩;have hn:n<256:=by omega
 exact (by decide +kernel:∀ n:Fin 256,bits .and .u8 ((n.val:Nat):Int) 3=((n.val:Nat):Int) % 4) ⟨n,hn⟩
theorem hO (x:Int) (h:0≤x∧x≤255):bits .and .i64 x 3=x % 4:=by
 obtain⟨n,rfl⟩:∃ n:Nat,x=n:=⟨x.toNat,by omega⟩;have hn:n<256:=by omega
 exact (by decide +kernel:∀ n:Fin 256,bits .and .i64 ((n.val:Nat):Int) 3=((n.val:Nat):Int) % 4) ⟨n,hn⟩
theorem zP (d:List Int) (k:Nat) (h:k<d.length):(d.take (k+1)).flatMap dV=(d.take k).flatMap dV++dV (d.getD k 0):=by
 rw[List.take_succ_eq_append_getElem h,List.flatMap_append,List.flatMap_cons,List.flatMap_nil,List.append_nil,List.getD_eq_getElem?_getD,List.getElem?_eq_getElem h];rfl
def dgt (x:Int) (j:Nat):Int:=(dV x).getD j 0
theorem sA (x:Int) (j:Nat) (h:j<4):(dV x).take (j+1)=(dV x).take j++[dgt x j]:=by
 rw[List.take_succ_eq_append_getElem (by rw[dJ];exact h)];unfold dgt;rw[List.getD_eq_getElem?_getD,List.getElem?_eq_getElem (by rw[dJ];exact h)];rfl
theorem zA (l:List Int) (x:Int):nF (l++[x])=nF l+3-x:=by rw[BP];simp[nF];omega
theorem aAc {d:List Int} (h:D32 d) {k:Nat} (hk:k<32):0≤d.getD k 0∧d.getD k 0≤255:=by
 have hl:=h.1;have e:d.getD k 0=d[k]'(by omega):=by rw[List.getD_eq_getElem?_getD,List.getElem?_eq_getElem zo];rfl
 have:=h.2 _ (List.getElem_mem (show k<d.length by omega));rw[e];omega
theorem dgt0 (x:Int):dgt x 0=x / 64 % 4:=rfl
theorem dgt1 (x:Int):dgt x 1=x / 16 % 4:=rfl
theorem dgt2 (x:Int):dgt x 2=x / 4 % 4:=rfl
theorem dgt3 (x:Int):dgt x 3=x % 4:=rfl
theorem sB (x:Int) (j:Nat) (h:j<4):0≤dgt x j∧dgt x j≤3:=by
 rcases (by omega:j=0∨j=1∨j=2∨j=3) with rfl | rfl | rfl | rfl
 ·rw[dgt0];omega
 ·rw[dgt1];omega
 ·rw[dgt2];omega
 ·rw[dgt3];omega
theorem AR {d:List Int} (h:D32 d) {k:Nat} (hk:k<16):((d.take 16).take (k+1)).flatMap dV=((d.take 16).take k).flatMap dV++dV (d.getD k 0):=by
 have hl:=h.1;have e:=zP (d.take 16) k (by rw[List.length_take];omega);rw[e,List.getD_eq_getElem?_getD,List.getD_eq_getElem?_getD,List.getElem?_take,if_pos hk]
theorem LP {l:List Int} (h:l.length≤16) (j:Nat) (x:Int):0≤nF (l.flatMap dV++(dV x).take j)∧nF (l.flatMap dV++(dV x).take j)≤204:=by
 have h1:=oR (l:=l.flatMap dV++(dV x).take j) (fun y hy=>by
  rcases List.mem_append.1 hy with hy | hy
  ·exact lH hy
  ·exact oZ (List.mem_of_mem_take hy))
 rw[List.length_append,jO,List.length_take,dJ] at h1;omega
theorem BG (d:List Int) (hd:D32 d) (w:World) :
 Calls Tryz.prog 108 #[.agg (dgA d)] w fun e w'=>∃ sp cap,e=.returned (.slice sp 68 cap)∧OwnN w' w.heap.size (.slice sp 68 cap) (digs d)∧Below w.heap.size w w':=by
 have HD:=zh hd;clear hd;have HN:=zh (heap_alloc_new w (.cells (dgA d) 77));have HB:=zh ((Below.refl w.heap.size w).alloc zl (.cells (dgA d) 77));have HZ:=zh (World.size_alloc w (.cells (dgA d) 77))
 go_enter Tryz.func108,Tryz.ntmps108
 go_wp2_with fail;generalize hw0:World.alloc w _=w0;have HR0:Hid (Ah w0 w.heap.size (dgA d) 77):=by rw[←hw0];exact HN
 have hb0:Below w.heap.size w w0:=by rw[←hw0];exact HB.out
 have hs0:w.heap.size<w0.heap.size:=by have:=HZ.out;rw[hw0] at this;omega
 clear hw0 HN HB HZ;generalize hbz:w.heap.size=b0 at *;have HBZ:=zh hbz;clear hbz
 go_loopw [3,4,5] (fun v s i wr=>∃ k:Nat,k≤16∧i=.int .i64 k∧s=.int .i64 (nF (((d.take 16).take k).flatMap dV))∧Hid (OwnN wr (b0+1) v (((d.take 16).take k).flatMap dV))∧Hid (Below (b0+1) w0 wr)) (fun _ _ i _=>16-(intOf i).toNat)
 case atStart=>exact⟨0,by omega,rfl,rfl,World.ownsRow_nil _ _ _ _,Below.refl _ _⟩
 case round =>
  rename_i v _ _
  obtain⟨k,hk,rfl,rfl,HO,HBL⟩:=hrel;by_cases hlt:k<16
  ·have HC0:=zh (show w0.cell? ⟨b0,k,none⟩=some (.int .u8 (d.getD k 0)) from aG HR0.out (rX d k (by have:=HD.out.1;omega)));have hx:=aAc HD.out (show k<32 by omega);have HTK:=zh (AR HD.out hlt);have HLT:Hid (((d.take 16).take k).length≤16):=by show _≤_;rw[List.length_take,List.length_take];omega
   generalize d.getD k 0=x at *;generalize (d.take 16).take k=T at *;have hd1:decide ((k:Int)<16)=true:=by simp;omega
   have p1:(0:Int)≤(k:Int):=by omega
   have p2:(k:Int)<16:=by omega
   go_wp2_with fail
   go_loopw [3,4,6] (fun v s i w2=>∃ j:Nat,j≤4∧i=.int .i64 (3-(j:Int))∧s=.int .i64 (nF (T.flatMap dV++(dV x).take j))∧Hid (OwnN w2 (b0+1) v (T.flatMap dV++(dV x).take j))∧Hid (Below (b0+1) w0 w2)) (fun _ _ i _=>(intOf i+1).toNat)
   case atStart=>exact⟨0,by omega,rfl,by simp,by simpa using HO,HBL⟩
   case round =>
    rename_i v2 _ _
    obtain⟨j,hj,rfl,rfl,HO2,HBL2⟩:=hrel;have hc2:wr.cell? ⟨b0,k,none⟩=some (.int .u8 x):=(HBL2.out.cell (p:=⟨b0,k,none⟩) (by show b0<b0+1;omega)).trans HC0.out;have HL2:=zh (LP HLT.out j x);have hlen:Hid ((T.flatMap dV++(dV x).take j).length≤1000000000):=by
     show _≤_;have:=HLT.out;rw[List.length_append,jO,List.length_take,dJ];omega
    have hbs2:b0+1≤wr.heap.size:=by have:=HBL2.out.size;omega
    by_cases hj4:j<4
    ·have HSN:=zh (sA x j hj4);have HDR:=zh (sB x j hj4);have hd2:decide (3-(j:Int) ≥ 0)=true:=by simp;omega
     have HS2:=zh (zA (T.flatMap dV++(dV x).take j) (dgt x j));generalize hs:nF (T.flatMap dV++(dV x).take j)=s at *;have hs1:=HL2.out.1;have hs2:=HL2.out.2;rcases (by omega:j=0∨j=1∨j=2∨j=3) with rfl | rfl | rfl | rfl
     ·have hb:bits .and .i64 (x / 64) 3=dgt x 0:=(hO _ zo).trans rfl;have d1:=HDR.out.1;have d2:=HDR.out.2
      go_wp2_with (at_builtin;refine bU rfl (.tmp 26) (.tmp 28) rfl (b0+1) _ _ rfl HO2.out (dgt x 0) rfl hlen.out hbs2 ?_;intro v3 w3 HO3 HB3)
      go_roundw
      case rel=>exact⟨1,by omega,by go_num,by rw[HSN.out,←List.append_assoc,HS2.out],by rw[HSN.out,←List.append_assoc];exact HO3,HBL2.out.trans (HB3.out.mono zo)⟩
      case measure=>simp[intOf]
     ·have hb:bits .and .i64 (x / 16) 3=dgt x 1:=(hO _ zo).trans rfl;have d1:=HDR.out.1;have d2:=HDR.out.2
      go_wp2_with (at_builtin;refine bU rfl (.tmp 26) (.tmp 28) rfl (b0+1) _ _ rfl HO2.out (dgt x 1) rfl hlen.out hbs2 ?_;intro v3 w3 HO3 HB3)
      go_roundw
      case rel=>exact⟨2,by omega,by go_num,by rw[HSN.out,←List.append_assoc,HS2.out],by rw[HSN.out,←List.append_assoc];exact HO3,HBL2.out.trans (HB3.out.mono zo)⟩
      case measure=>simp[intOf]
     ·have hb:bits .and .i64 (x / 4) 3=dgt x 2:=(hO _ zo).trans rfl;have d1:=HDR.out.1;have d2:=HDR.out.2
      go_wp2_with (at_builtin;refine bU rfl (.tmp 26) (.tmp 28) rfl (b0+1) _ _ rfl HO2.out (dgt x 2) rfl hlen.out hbs2 ?_;intro v3 w3 HO3 HB3)
      go_roundw
      case rel=>exact⟨3,by omega,by go_num,by rw[HSN.out,←List.append_assoc,HS2.out],by rw[HSN.out,←List.append_assoc];exact HO3,HBL2.out.trans (HB3.out.mono zo)⟩
      case measure=>simp[intOf]
     ·have hb:bits .and .i64 (x) 3=dgt x 3:=(hO _ zo).trans rfl;have d1:=HDR.out.1;have d2:=HDR.out.2
      go_wp2_with (at_builtin;refine bU rfl (.tmp 26) (.tmp 28) rfl (b0+1) _ _ rfl HO2.out (dgt x 3) rfl hlen.out hbs2 ?_;intro v3 w3 HO3 HB3)
      go_roundw
      case rel=>exact⟨4,by omega,by go_num,by rw[HSN.out,←List.append_assoc,HS2.out],by rw[HSN.out,←List.append_assoc];exact HO3,HBL2.out.trans (HB3.out.mono zo)⟩
      case measure=>simp[intOf]
    ·obtain rfl:j=4:=by omega
     have hd2:decide (3-((4:Nat):Int) ≥ 0)=false:=by simp
     have HF:=zh (show (dV x).take 4=dV x from rfl)
     go_wp2
     go_roundw
     case rel=>exact⟨k+1,by omega,by go_num,by rw[HTK.out,HF.out],by rw[HTK.out,←HF.out];exact HO2,HBL2⟩
     case measure=>simp[intOf];omega
  ·obtain rfl:k=16:=by omega
   have HT:=zh (show ((d.take 16).take 16).flatMap dV=qI d by rw[List.take_take];rfl);have hl0:=ST HD.out.1;rw[HT.out] at HO;rw[HT.out];have HX:Hid (digs d=qI d++dV (nF (qI d))):=rfl;have HL64:=zh (fJ HD.out.1);generalize qI d=T at *;generalize hs:nF T=s at *;have HS:=zh hs;clear hs HT;simp only[show ((16:Nat):Int)=16 from rfl];go_wp2_with fail
   go_loopw [3,8] (fun v i w2=>∃ j:Nat,j≤4∧i=.int .i64 (3-(j:Int))∧Hid (OwnN w2 (b0+1) v (T++(dV s).take j))∧Hid (Below (b0+1) w0 w2)) (fun _ i _=>(intOf i+1).toNat)
   case atStart=>exact⟨0,by omega,rfl,by simpa using HO,HBL⟩
   case round =>
    rename_i v2 _
    obtain⟨j,hj,rfl,HO2,HBL2⟩:=hrel;have hlen:Hid ((T++(dV s).take j).length≤1000000000):=by
     show _≤_;have:=HL64.out;rw[List.length_append,List.length_take,dJ];omega
    have hbs2:b0+1≤wr.heap.size:=by have:=HBL2.out.size;omega
    by_cases hj4:j<4
    ·have HSN:=zh (sA s j hj4);have HDR:=zh (sB s j hj4);have hd2:decide (3-(j:Int) ≥ 0)=true:=by simp;omega
     rcases (by omega:j=0∨j=1∨j=2∨j=3) with rfl | rfl | rfl | rfl
     ·have hb:bits .and .i64 (s / 64) 3=dgt s 0:=(hO _ zo).trans rfl;have d1:=HDR.out.1;have d2:=HDR.out.2
      go_wp2_with (at_builtin;refine bU rfl (.tmp 38) (.tmp 45) rfl (b0+1) _ _ rfl HO2.out (dgt s 0) rfl hlen.out hbs2 ?_;intro v3 w3 HO3 HB3)
      go_roundw
      case rel=>exact⟨1,by omega,by go_num,by rw[HSN.out,←List.append_assoc];exact HO3,HBL2.out.trans (HB3.out.mono zo)⟩
      case measure=>simp[intOf]
     ·have hb:bits .and .i64 (s / 16) 3=dgt s 1:=(hO _ zo).trans rfl;have d1:=HDR.out.1;have d2:=HDR.out.2
      go_wp2_with (at_builtin;refine bU rfl (.tmp 38) (.tmp 45) rfl (b0+1) _ _ rfl HO2.out (dgt s 1) rfl hlen.out hbs2 ?_;intro v3 w3 HO3 HB3)
      go_roundw
      case rel=>exact⟨2,by omega,by go_num,by rw[HSN.out,←List.append_assoc];exact HO3,HBL2.out.trans (HB3.out.mono zo)⟩
      case measure=>simp[intOf]
     ·have hb:bits .and .i64 (s / 4) 3=dgt s 2:=(hO _ zo).trans rfl;have d1:=HDR.out.1;have d2:=HDR.out.2
      go_wp2_with (at_builtin;refine bU rfl (.tmp 38) (.tmp 45) rfl (b0+1) _ _ rfl HO2.out (dgt s 2) rfl hlen.out hbs2 ?_;intro v3 w3 HO3 HB3)
      go_roundw
      case rel=>exact⟨3,by omega,by go_num,by rw[HSN.out,←List.append_assoc];exact HO3,HBL2.out.trans (HB3.out.mono zo)⟩
      case measure=>simp[intOf]
     ·have hb:bits .and .i64 (s) 3=dgt s 3:=(hO _ zo).trans rfl;have d1:=HDR.out.1;have d2:=HDR.out.2
      go_wp2_with (at_builtin;refine bU rfl (.tmp 38) (.tmp 45) rfl (b0+1) _ _ rfl HO2.out (dgt s 3) rfl hlen.out hbs2 ?_;intro v3 w3 HO3 HB3)
      go_roundw
      case rel=>exact⟨4,by omega,by go_num,by rw[HSN.out,←List.append_assoc];exact HO3,HBL2.out.trans (HB3.out.mono zo)⟩
      case measure=>simp[intOf]
    ·obtain rfl:j=4:=by omega
     have hd2:decide (3-((4:Nat):Int) ≥ 0)=false:=by simp
     have HF:=zh (show (dV s).take 4=dV s from rfl);obtain⟨sp,cap,rfl⟩:=aM HO2.out;have HN:Hid ((T++(dV s).take 4).length=68):=by
      show _=_;have:=HL64.out;rw[List.length_append,List.length_take,dJ];omega
     rw[HN.out];go_wp2_with fail;go_ret;refine⟨sp,cap,rfl,?_,?_⟩
     ·rw[HX.out,←HF.out];have:=HO2.out;rw[HN.out] at this;rw[HBZ.out];exact this.base zo
     ·rw[HBZ.out];exact hb0.trans (HBL2.out.mono zo)
end Go.Proofs.YtaeobegaodhpcaaGreatDoor
namespace Go.Proofs.YtaeobegaodhpcaaGreatDoor
open Go.RowKit Go.Shelf Go.Proofs.YtaeobegaodhpcaaGreatDoor.One
attribute [local go_sem] Oper.semAt_some
structure BfIn (w:World) (ba bb off n cap:Nat) (l:List Int):Prop where
 pa:w.cell? ⟨ba,0,none⟩=some (.slice (some ⟨bb,off,none⟩) n cap)
 len:l.length=n
 byt:∀ x ∈ l,0≤x∧x<256
 cells:∀ j,j<n→w.cell? ⟨bb,off+j,none⟩=some (.int .u8 (l.getD j 0))
def Keep2 (ba bb:Nat) (W W':World):Prop:=W.heap.size≤W'.heap.size∧W'.heap[ba]? = W.heap[ba]? ∧ W'.heap[bb]? = W.heap[bb]?
theorem Keep2.trans {ba bb:Nat} {X Y Z:World} (h:Keep2 ba bb X Y) (k:Keep2 ba bb Y Z):Keep2 ba bb X Z:=⟨Nat.le_trans h.1 k.1,k.2.1.trans h.2.1,k.2.2.trans h.2.2⟩
theorem Keep2.of_below {ba bb M:Nat} {X Y:World} (h:Below M X Y) (h2:ba<M) (h3:bb<M):Keep2 ba bb X Y:=⟨h.size,h.block _ h2,h.block _ h3⟩
theorem BfIn.keep {w w':World} {ba bb off n cap:Nat} {l:List Int} (h:BfIn w ba bb off n cap l) (hk:Keep2 ba bb w w'):BfIn w' ba bb off n cap l :=
 ⟨(World.cell?_of_block (a:=⟨ba,0,none⟩) hk.2.1).trans h.pa,h.len,h.byt,fun j hj=>(World.cell?_of_block (a:=⟨bb,off+j,none⟩) hk.2.2).trans (h.cells j hj)⟩
def ZZ (x:Int):Array Value:=#[.int .i64 x]
theorem WB {l:List Int} {i j:Nat} (hi:i<l.length) (hj:j<4) (x:Int):((l.take i).flatMap dV++(dV x).take j).length<4*l.length:=by
 rw[List.length_append,jO,List.length_take,List.length_take,dJ];omega
theorem VZ (n l ba bb off na ca:Nat) (a:List Int) (hn:1≤n) (hna:na≤1000000) (J Jx:List Int→World→Prop) (W0:World)
 (hba:ba<W0.heap.size) (hbb:bb<W0.heap.size)
 (hY:∀ pre x W,J pre W→pre.length<4*a.length→YieldAt Fence.wide (n-1) Tryz.prog l (ZZ x) W fun e W'=>(e=.returned (.bool true)∧J (pre++[x]) W'∧Keep2 ba bb W W')∨(e=.returned (.bool false)∧Jx (pre++[x]) W'))
 (hc:BfIn W0 ba bb off na ca a) (h0:J [] W0) :
 CallsIn Fence.wide n Tryz.prog 173 #[.func (.yield l) #[] #[],.pointer (some ⟨ba,0,none⟩)] W0 fun e W' =>
  (∃ v,e=.returned v)∧((∃ xs,xs=a.flatMap dV∧J xs W')∨(∃ pre,True∧Jx pre W')):=by
 have HY:=zh hY;have hpa:=hc.pa;have HC0:=zh hc;clear hY hc;refine callsIn_of_wp Tryz.func173 rfl trivial ?_ rfl;simp only[Tryz.ntmps173,List.size_toArray,List.length_cons,List.length_nil,Nat.reduceAdd,Nat.reduceSub,Array.replicate_succ,Array.replicate_zero,List.push_toArray,List.append_toArray,List.nil_append,List.cons_append]
 gi_wp2_with fail
 gi_loopw [8] (fun u wr=>∃ (i:Nat),i≤na∧u=.int .i64 i∧Hid (J ((a.take i).flatMap dV) wr)∧Hid (BfIn wr ba bb off na ca a)∧W0.heap.size≤wr.heap.size) (fun u _=>na-(intOf u).toNat)
 case atStart=>exact⟨0,Nat.zero_le _,rfl,h0,HC0.out,Nat.le_refl _⟩
 case round =>
  clear h0 hpa HC0;obtain⟨i,hi,rfl,HJr,HC,hsz⟩:=hrel;by_cases hia:i<na
  ·have hd1:decide ((i:Int)<(na:Int))=true:=by simp;omega
   have p1:(0:Int)≤(i:Int):=by omega
   have p2:(i:Int)<(na:Int):=by omega
   have hcell:=HC.out.cells i hia;have HX:Hid (0≤a.getD i 0∧a.getD i 0≤255):=by
    have hl:=HC.out.len;have e:a.getD i 0=a[i]'(by omega):=by rw[List.getD_eq_getElem?_getD,List.getElem?_eq_getElem zo];rfl
    have:=HC.out.byt _ (List.getElem_mem (show i<a.length by omega));show _∧_;rw[e];omega
   have HSN:=zh (zP a i (by have:=HC.out.len;omega));have HLT:=zh (fun j (hj:j<4)=>WB (l:=a) (i:=i) (by have:=HC.out.len;omega) hj (a.getD i 0));generalize a.getD i 0=x at *;generalize (a.take i).flatMap dV=P at *
   gi_wp2_with fail
   gi_loopw [5] (fun u wr=>∃ (j:Nat),j≤4∧u=.int .i64 (6-2*(j:Int))∧Hid (J (P++(dV x).take j) wr)∧Hid (BfIn wr ba bb off na ca a)∧W0.heap.size≤wr.heap.size) (fun u _=>(intOf u+2).toNat)
   case atStart=>exact⟨0,Nat.zero_le _,rfl,by simpa using HJr,HC,hsz⟩
   case round =>
    clear HJr HC hcell hsz;obtain⟨j,hj,rfl,HJ2,HC2,hsz2⟩:=hrel;by_cases hj4:j<4
    ·have aAu:=zh (sA x j hj4);have HDR:=zh (sB x j hj4);have HLJ:=zh (HLT.out j hj4);have d1:=HDR.out.1;have d2:=HDR.out.2;have x1:=HX.out.1;have x2:=HX.out.2;obtain⟨fn,tmps,assign,body,hy,hR⟩:=HY.out (P++(dV x).take j) (dgt x j) wr HJ2.out HLJ.out;simp only[ZZ] at hy;have hd2:decide (6-2*(j:Int) ≥ 0)=true:=by simp;omega
     have HJN:=zh (show P++(dV x).take j++[dgt x j]=P++(dV x).take (j+1) by rw[aAu.out,List.append_assoc]);rcases (by omega:j=0∨j=1∨j=2∨j=3) with rfl | rfl | rfl | rfl
     ·have hb:bits .and .u8 (x / 64) 3=dgt x 0:=(wI _ zo).trans rfl
      gi_wp2_with fail
      refine hR.mono ?_;clear hR hy;rintro e W6 (⟨rfl,hJ6,hk6⟩ | ⟨rfl,hJx6⟩)
      ·have HJ6:=zh hJ6;have HC6:=zh (HC2.out.keep hk6);have hz6:=hk6.1;rw[HJN.out] at HJ6;clear hJ6 hk6
       gi_wp2
       go_roundw
       case rel=>exact⟨1,by omega,by go_num,HJ6,HC6,by omega⟩
       case measure=>simp[intOf]
      ·have XS:=zh hJx6;clear hJx6
       gi_wp2
       refine bodyPost_ret (results_none rfl _ _ _) rfl ?_;exact⟨⟨_,rfl⟩,.inr ⟨_,trivial,XS.out⟩⟩
     ·have hb:bits .and .u8 (x / 16) 3=dgt x 1:=(wI _ zo).trans rfl
      gi_wp2_with fail
      refine hR.mono ?_;clear hR hy;rintro e W6 (⟨rfl,hJ6,hk6⟩ | ⟨rfl,hJx6⟩)
      ·have HJ6:=zh hJ6;have HC6:=zh (HC2.out.keep hk6);have hz6:=hk6.1;rw[HJN.out] at HJ6;clear hJ6 hk6
       gi_wp2
       go_roundw
       case rel=>exact⟨2,by omega,by go_num,HJ6,HC6,by omega⟩
       case measure=>simp[intOf]
      ·have XS:=zh hJx6;clear hJx6
       gi_wp2
       refine bodyPost_ret (results_none rfl _ _ _) rfl ?_;exact⟨⟨_,rfl⟩,.inr ⟨_,trivial,XS.out⟩⟩
     ·have hb:bits .and .u8 (x / 4) 3=dgt x 2:=(wI _ zo).trans rfl
      gi_wp2_with fail
      refine hR.mono ?_;clear hR hy;rintro e W6 (⟨rfl,hJ6,hk6⟩ | ⟨rfl,hJx6⟩)
      ·have HJ6:=zh hJ6;have HC6:=zh (HC2.out.keep hk6);have hz6:=hk6.1;rw[HJN.out] at HJ6;clear hJ6 hk6
       gi_wp2
       go_roundw
       case rel=>exact⟨3,by omega,by go_num,HJ6,HC6,by omega⟩
       case measure=>simp[intOf]
      ·have XS:=zh hJx6;clear hJx6
       gi_wp2
       refine bodyPost_ret (results_none rfl _ _ _) rfl ?_;exact⟨⟨_,rfl⟩,.inr ⟨_,trivial,XS.out⟩⟩
     ·have hb:bits .and .u8 (x) 3=dgt x 3:=(wI _ zo).trans rfl
      gi_wp2_with fail
      refine hR.mono ?_;clear hR hy;rintro e W6 (⟨rfl,hJ6,hk6⟩ | ⟨rfl,hJx6⟩)
      ·have HJ6:=zh hJ6;have HC6:=zh (HC2.out.keep hk6);have hz6:=hk6.1;rw[HJN.out] at HJ6;clear hJ6 hk6
       gi_wp2
       go_roundw
       case rel=>exact⟨4,by omega,by go_num,HJ6,HC6,by omega⟩
       case measure=>simp[intOf]
      ·have XS:=zh hJx6;clear hJx6
       gi_wp2
       refine bodyPost_ret (results_none rfl _ _ _) rfl ?_;exact⟨⟨_,rfl⟩,.inr ⟨_,trivial,XS.out⟩⟩
    ·obtain rfl:j=4:=by omega
     have hd2:decide (6-2*((4:Nat):Int) ≥ 0)=false:=by simp
     have HF:=zh (show (dV x).take 4=dV x from rfl)
     gi_wp2
     go_roundw
     case rel=>exact⟨i+1,by omega,by go_num,by rw[HSN.out,←HF.out];exact HJ2,HC2,hsz2⟩
     case measure=>simp[intOf];omega
  ·obtain rfl:i=na:=by omega
   have hd1:decide ((i:Int)<(i:Int))=false:=by simp
   have HE:Hid (a.take i=a):=by
    show _=_;exact List.take_of_length_le (by have:=HC.out.len;omega)
   rw[HE.out] at HJr
   gi_wp2_with fail
   go_end0;exact⟨⟨_,rfl⟩,.inl ⟨_,rfl,HJr.out⟩⟩
theorem tZ (n:Nat) (hn:1≤n) (ba bb off na ca:Nat) (a:List Int) (hna:na≤1000000) (w:World)
 (hba:ba<w.heap.size) (hbb:bb<w.heap.size) (hc:BfIn w ba bb off na ca a) :
 SeqStopsK Fence.wide n Tryz.prog 173 #[.pointer (some ⟨ba,0,none⟩)] ZZ (Keep2 ba bb) (fun xs=>xs=a.flatMap dV) (fun _=>True) (4*a.length) w:=by
 intro l J Jx W hW hJ hJx hY h0;have hz:=hW.size;exact VZ n l ba bb off na ca a hn hna J Jx W zo zo hY (hc.keep (Keep2.of_below hW hba hbb)) h0
attribute [local go_sem] Oper.semAt_some
structure AppN (w:World) (bx base g cap:Nat) (l0 pre:List Int) (W:World):Prop where
 row:∃ v,Boxed W bx 141 v∧W.ownsRow base 3 1 v (l0.length+pre.length) (nv (l0++pre))∧v=.slice (some ⟨g,0,none⟩) (l0.length+pre.length) cap
 below:Below base w W
 big:bx+1≤W.heap.size
 oth:∀ k,k<w.heap.size→k≠g→W.heap[k]? = w.heap[k]?
theorem ET (w:World) (bx base g cap:Nat) (l0:List Int) (B:Nat) (h1:base≤w.heap.size) (h2:base≤B) (h3:w.heap.size≤bx) (h4:w.heap.size≤B):OwnFrom B (AppN w bx base g cap l0):=fun pre X Y row h hg hrow =>
 ⟨(Own.from (holdsRow_own base bx 141 3 1 (fun pre:List Int=>l0.length+pre.length) (fun pre=>nv (l0++pre)) (fun pre v=>v=.slice (some ⟨g,0,none⟩) (l0.length+pre.length) cap)) B) pre X Y row h.row hg hrow,
  ownFrom_below h1 h2 pre X Y row h.below hg hrow,Nat.le_trans h.big hg.size,fun k hk hkg=>(hg.block k (by have:=h.big;omega) (fun e=>by have:=(hrow k e.symm).1;omega)).trans (h.oth k hk hkg)⟩
theorem zB {ba bb:Nat} {M:Nat} (hba:ba<M) (hbb:bb<M) (W:World) (l:Nat) (o o':Obj) (hl:M≤l) (_:W.heap[l]? = some o) (_:o.isCells=false) (_:o.isWalk=false):Keep2 ba bb W (W.putObj l o') :=
 ⟨by simp,World.putObj_heap_other zo,World.putObj_heap_other zo⟩
theorem tV {b6:Nat} {X Y:World} {g:Nat} {tmp:Obj} (hg:(X.alloc tmp).grownBy Y (some g)) (v:Value) (k:Nat) (hk:k<X.heap.size) (hk6:k≠b6) (hkr:k≠g):(Y.setCell ⟨b6,0,none⟩ v).heap[k]? = X.heap[k]? :=
 (Below.heap_setCell Y ⟨b6,0,none⟩ v k hk6).trans ((hg.block k (by rw[World.size_alloc];omega) (fun e=>hkr (by injection e))).trans (Below.heap_alloc X tmp k hk))
theorem pP {ba bb b6:Nat} {X Y:World} {g:Nat} {tmp:Obj} (hg:(X.alloc tmp).grownBy Y (some g)) (v:Value) (h1:ba≠g) (h2:bb≠g) (h3:ba<X.heap.size) (h4:bb<X.heap.size) (h5:ba≠b6) (h6:bb≠b6) :
 Keep2 ba bb X (Y.setCell ⟨b6,0,none⟩ v):=by
 have hs:=hg.size;rw[World.size_alloc] at hs;have go:∀ k,k<X.heap.size→k≠b6→k≠g→(Y.setCell ⟨b6,0,none⟩ v).heap[k]? = X.heap[k]?:=fun k hk hk6 hkr =>
  (Below.heap_setCell Y ⟨b6,0,none⟩ v k hk6).trans ((hg.block k (by rw[World.size_alloc];omega) (fun e=>hkr (by injection e))).trans (Below.heap_alloc X tmp k hk))
 exact⟨by show _≤(Y.heap.modify _ _).size;rw[Array.size_modify];omega,go ba h3 h5 h1,go bb h4 h6 h2⟩
def aAd (ba g n cap bx:Nat) (x:Int):Act:={ tmps:=#[.slice (some ⟨g,0,none⟩) n cap,.func (.func 173) #[] #[.pointer (some ⟨ba,0,none⟩)],.pointer (some ⟨bx,0,none⟩),undef,.slice none 0 0,.int .i64 x,.func (.func 173) #[] #[.pointer (some ⟨ba,0,none⟩)],.int .i64 x,undef,undef,undef,undef,undef],defers:=[] }
theorem sZ (ba bb off na ca:Nat) (a:List Int) (g cap:Nat) (l0:List Int) (base:Nat) (w:World) (hna:na≤1000000) (hfit:l0.length+4*a.length≤cap)
 (hown:OwnN w base (.slice (some ⟨g,0,none⟩) l0.length cap) l0) (hbase:base≤w.heap.size) (hba:ba<w.heap.size) (hbb:bb<w.heap.size) (hag:ba≠g) (hbg:bb≠g) (hc:BfIn w ba bb off na ca a) :
 Calls Tryz.prog 154 #[.slice (some ⟨g,0,none⟩) l0.length cap,.func (.func 173) #[] #[.pointer (some ⟨ba,0,none⟩)]] w fun e w' =>
  e=.returned (.slice (some ⟨g,0,none⟩) (l0++a.flatMap dV).length cap)∧OwnN w' base (.slice (some ⟨g,0,none⟩) (l0++a.flatMap dV).length cap) (l0++a.flatMap dV)∧Below base w w'∧∀ k,k<w.heap.size→k≠g→w'.heap[k]? = w.heap[k]?:=by
 have HC:=zh hc;have CM:=zh hown;clear hc hown;have HB:=zh (heap_alloc_new w (.cells #[Value.slice (some ⟨g,0,none⟩) l0.length cap] 141));refine (callsIn_wide (n:=8)).1 ?_;refine callsIn_of_wp_marks Tryz.func154 rfl trivial ?_ rfl;simp only[Tryz.ntmps154,List.size_toArray,List.length_cons,List.length_nil,Nat.reduceAdd,Nat.reduceSub,Array.replicate_succ,Array.replicate_zero,List.push_toArray,List.append_toArray,List.nil_append,List.cons_append]
 gi_wp2_with fail
 generalize hw1:World.alloc w _=w1;have hb1:Below w.heap.size w w1:=by rw[←hw1];exact (Below.refl _ w).alloc zl _
 have hz1:w1.heap.size=w.heap.size+1:=by rw[←hw1];simp
 have r2:Boxed w1 w.heap.size 141 (.slice (some ⟨g,0,none⟩) l0.length cap):=by show w1.heap[_]? = _;rw[←hw1];exact HB.out
 clear hw1 HB;generalize hbx:w.heap.size=bx at *;have HSB:=zh (HC.out.keep (Keep2.of_below hb1 hba hbb));have HIN:Hid (AppN w bx base g cap l0 [] w1):=⟨⟨_,r2,by have:=CM.out.below (hbx ▸ hb1);rw[List.append_nil];exact this,rfl⟩,hb1.mono hbase,by omega,fun k hk _=>hb1.block k (hbx ▸ hk)⟩;have HN:=zh (HC.out.len);have hz1a:bx+1≤w1.heap.size:=by omega
 have hz1b:w1.heap.size≤bx+1:=by omega
 have HBX:=zh hbx;have hI:=ET w bx base g cap l0 w1.heap.size zo zo zo zo;clear r2 hb1 hz1 hbx;have HIo:=zh hI
 refine wpIn_rangeFunc_ownF (α:=Int) rfl (by decide) (gf:=173) (lb:=#[.pointer (some ⟨ba,0,none⟩)]) rfl trivial (enters_of Tryz.func173 (by kernel_rfl) rfl)
  (tZ 7 (by decide) ba bb off na ca a hna w1 zo zo HSB.out)
  Keep2.trans (zB zo zo) (Below.refl _ _) (fun _=>rfl) (AppN w bx base g cap l0) (fun _ _ _=>False) hI (fun _ _ _ _ _ h _ _=>h) HIN.out
  (fun x=>aAd ba g l0.length cap bx x) ?assign ?body ?done ?stop
 clear hI
 case assign =>
  intro l x W K hK;have HK:=zh hK;clear hK;simp only[ZZ,List.zip_toArray,List.zip_cons_cons,List.zip_nil_right,List.foldl_toArray,List.foldl_cons,List.foldl_nil,List.setIfInBounds_toArray,List.set_cons_succ,List.set_cons_zero]
  gi_wp2_with fail
  exact HK.out
 case body =>
  rintro l pre x W hin hlen;have hbig:=hin.big;have HFI:=zh hin;obtain⟨v,hv,hrow,rfl⟩:=hin.row;have HV:=zh hv;have mL:=zh hrow;have hc6:=hv.cell;have hf6:=hv.frozen;have hkl:l0.length+pre.length+1≤cap:=by omega
  have HKL:=zh hkl;have hbx:=HBX.out;have hbaseW:base≤W.heap.size:=by omega
  obtain⟨i0,hi0,hz0,hz1,hz2⟩:=bF DX;have HI0:=zh hi0;have HZ1:=zh hz1;clear hv hrow hin hbx hi0 hz0 hz1 hz2;unfold aAd
  gi_wp2_with (refine wpListIn_append_fits _ rfl (.tmp 8) (.tmp 10) _ rfl base _ i0 1 Tryz.underlying141 HI0.out HZ1.out g (l0.length+pre.length) cap (nv (l0++pre)) rfl (mL.out.alloc _) ⟨W.heap.size,0,none⟩ 1 1 [.int .i64 x] rfl rfl (sE W x) (by intro u hu;simp at hu;subst hu;rfl) HKL.out ?_;intro W5 HO5 HG5;have HO5':=zh HO5;have TN:=zh HG5;have happ:=HV.out.appended (by decide) mL.out hbaseW (by omega:base≤bx) HO5'.out TN.out;have hc7:=happ.1.cell;have hf7:=happ.1.frozen;have HAPP:=zh happ;clear happ HO5 HG5)
  obtain⟨-,hp2,hp3,hp4,hp5⟩:=HAPP.out;have hk4:=pP TN.out (.slice (some ⟨g,0,none⟩) (l0.length+pre.length+1) cap) hag hbg (by omega:ba<W.heap.size) (by omega:bb<W.heap.size) (by omega:ba≠bx) (by omega:bb≠bx);refine⟨hp4,hk4,⟨_,hp2,?_,?_⟩,HFI.out.below.trans hp5,Nat.le_trans HFI.out.big hk4.1,fun k hk hkg=>(tV TN.out _ k (by have:=HBX.out;omega) (by have:=HBX.out;omega) hkg).trans (HFI.out.oth k hk hkg)⟩
  ·rw[←List.append_assoc,BL,List.length_append];exact hp3
  ·rw[List.length_append];rfl
 case done =>
  rintro D xs W hD hS hin hK;have HS:=zh hS;clear hS;obtain⟨v,hv,hrow,rfl⟩:=hin.row;have hc6:=hv.cell;have mL:=zh hrow;have HFI:=zh hin;have HKs:=zh hK;clear hin hrow hK;have HBX2:=HBX.out;have hD2:base≤D:=by omega
  gi_wp2_with fail
  refine⟨by simp,.inl ⟨_,_,rfl,run_takeDeferred HKs.out,?_⟩⟩;refine⟨.slice (some ⟨g,0,none⟩) (l0.length+xs.length) cap,?_,?_⟩
  ·simp[results,Tryz.f154,go_sem]
  ·have hS:xs=a.flatMap dV:=HS.out;rw[←hS,List.length_append];refine⟨rfl,?_,HFI.out.below.trans (belowK_b (w:=w1) zo W D _ _ zo HKs.out rfl rfl),fun k hk hkg=>(World.putObj_heap_other zo).trans (HFI.out.oth k zo hkg)⟩;show World.ownsRow _ _ _ _ _ _ _;rw[List.length_append];exact ownsRow_putObj mL.out _ HKs.out rfl
 case stop =>
  rintro D c pre W hD hSp hout hK;exact hout.elim
end Go.Proofs.YtaeobegaodhpcaaGreatDoor
