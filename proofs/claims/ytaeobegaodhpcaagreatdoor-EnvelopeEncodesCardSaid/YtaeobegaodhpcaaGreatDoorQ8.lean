/-
  One-time signatures: the walk of Public (condition: the table of constants reads as it is laid).
-/
import Derived.Test.YtaeobegaodhpcaaGreatDoorZip
import Derived.Test.YtaeobegaodhpcaaGreatDoorQ7
import Derived.KernelRfl
set_option maxRecDepth 100000
set_option maxHeartbeats 8000000
namespace Go.Proofs.YtaeobegaodhpcaaGreatDoor
open Go.RowKit Go.Proofs.YtaeobegaodhpcaaGreatDoor.One
def FC:Array Value:=(List.replicate 1088 (Value.int .u8 0)).toArray
theorem SC (w:World):(zeroValue 190).run Tryz.prog w=.ok (.agg FC) w:=by kernel_rfl
theorem dW {B b:Nat} {a:World} (hb:B≤b):∀ (vs:List Value) (o:Nat) (w:World),Below B a w→Below B a (w.setCells b o vs)
 | [],_,_,h=>h
 | v :: r,o,w,h=>dW hb r (o+1) _ (h.setCell (by exact hb) v)
structure EndsIn (w:World) (g k:Nat) (E:Nat→List Int):Prop where
 got:∀ i,i<k→w.rangeAt g (i*16) ((E i).map (Value.int .u8))
 room:w.there g 0 1088
theorem EndsIn.below {w w':World} {g k B:Nat} {E:Nat→List Int} (h:EndsIn w g k E) (hb:Below B w w') (hg:g<B):EndsIn w' g k E :=
 ⟨fun i hi=>aB (h.got i hi) hb hg,kF h.room hb hg⟩
theorem EndsIn.at_ {w:World} {g k:Nat} {E:Nat→List Int} (h:EndsIn w g k E) (hk:k<68):w.there g (k*16) 16:=fun j hj=>by
 have:=h.room (k*16+j) zo;rw[Nat.zero_add] at this;exact this
theorem EndsIn.put {w:World} {g k:Nat} {E:Nat→List Int} (h:EndsIn w g k E) (hE:∀ i,i<68→H16 (E i)) (hk:k<68):EndsIn (w.setCells g (k*16) ((E k).map (Value.int .u8))) g (k+1) E:=by
 have hl:∀ i,i<68→((E i).map (Value.int .u8)).length=16:=fun i hi=>by rw[List.length_map,(hE i hi).1]
 refine⟨fun i hi=>?_,World.there_setCells h.room _ _ _⟩;by_cases e:i=k
 ·subst e;refine World.rangeAt_setCells_same _ _ _ _ ?_;rw[hl _ hk];exact h.at_ hk
 ·exact World.rangeAt_setCells_apart (h.got i zo) _ _ _ (Or.inr (by rw[hl i zo,hl k hk];omega))
theorem EndsIn.hvs {w:World} {g:Nat} {E:Nat→List Int} (h:EndsIn w g 68 E) (hE:∀ i,i<68→H16 (E i)) (hg:g<w.heap.size):HvsIn w w.heap.size (some ⟨g,0,none⟩) 68 68 ((List.range 68).map E) :=
 ⟨by simp,fun x hx=>by obtain⟨i,hi,rfl⟩:=List.mem_map.1 hx;exact hE i (List.mem_range.1 hi),fun _=>⟨g,0,rfl,hg,Nat.le_refl _,fun i hi=>by
  have e:((List.range 68).map E).getD i []=E i:=by simp[List.getD_eq_getElem?_getD,hi]
  rw[e,Nat.zero_add];exact h.got i hi⟩⟩
structure Box3 (w:World) (x:List Int) (w0:World):Prop where
 x:w0.heap[w.heap.size]? = some (.cells (hvA x) 42 (0,0))
 z:w0.heap[w.heap.size+1]? = some (.cells (Array.replicate 16 (Value.int .u8 0)) 42 (0,0))
 e:w0.there (w.heap.size+2) 0 1088
 b:Below w.heap.size w w0
 s:w0.heap.size=w.heap.size+3
theorem CY (w:World) (t:TypeId):(w.alloc (.cells FC t)).there w.heap.size 0 1088:=fun j hj=>by
 rw[Nat.zero_add];have hg:=heap_alloc_new w (.cells FC t);refine⟨?_,frozen_of_row _ _ _ _ _ hg⟩;rw[cell_of_row _ w.heap.size j _ _ _ hg];have e:FC[j]? = some (Value.int .u8 0):=by
  unfold FC;rw[List.getElem?_toArray,List.getElem?_replicate,if_pos hj]
 rw[e];rfl
theorem Box3.new (w:World) (x:List Int):Box3 w x (((w.alloc (.cells (hvA x) 42)).alloc (.cells (Array.replicate 16 (Value.int .u8 0)) 42)).alloc (.cells FC 190)):=by
 have h:=Two.new w x;generalize (w.alloc (.cells (hvA x) 42)).alloc (.cells (Array.replicate 16 (Value.int .u8 0)) 42)=w1 at *;have h2:=CY w1 190;have b2:=aA w1 (.cells FC 190);have s2:=aF w1 (.cells FC 190);generalize w1.alloc (.cells FC 190)=w2 at *;have hs:=h.s;rw[hs] at h2;exact⟨(b2.block _ zo).trans h.x,(b2.block _ zo).trans h.z,h2,h.b.trans (b2.mono zo),by omega⟩
def xC (x:List Int) (leaf:Int) (i:Nat):List Int:=dC (xB x leaf i) leaf i 0 3
def OD (x:List Int) (leaf:Int):List Int:=OF leaf ((List.range 68).map (xC x leaf))
theorem nS (x:List Int) (leaf:Int) (i:Nat):H16 (xC x leaf i):=pA (dF _ _ _) _ _ _ _
theorem fE (x:List Int) (leaf:Int):H16 (OD x leaf):=gV _ _
theorem GA (x:List Int) (leaf:Int) (w:World) (hs:H16 x) (hk:KayIn w) (hk0:4<w.heap.size) :
 Calls Tryz.prog 132 #[.agg (hvA x),.int .i64 leaf] w fun e w'=>e=.returned (.agg (hvA (OD x leaf)))∧Below w.heap.size w w':=by
 have HK:=zh hk;have HS:=zh hs;clear hs hk;have HT:=zh (Box3.new w x);have hz:=SC
 go_enter Tryz.func132,Tryz.ntmps132
 go_wp2_with fail;clear hz;generalize hw0:World.alloc (World.alloc (World.alloc w _) _) _=w0;have HT0:Hid (Box3 w x w0):=by rw[←hw0];exact HT.out
 clear hw0 HT;generalize hb:w.heap.size=b at *;have HBZ:=zh hb;clear hb;have HX0:Hid (w0.heap[b]? = some (.cells (hvA x) 42 (0,0))):=by have h:=HT0.out.x;rw[HBZ.out] at h;exact h
 have HZ0:Hid (w0.heap[b+1]? = some (.cells (Array.replicate 16 (Value.int .u8 0)) 42 (0,0))):=by have h:=HT0.out.z;rw[HBZ.out] at h;exact h
 have HE0:Hid (w0.there (b+1+1) 0 1088):=by have h:=HT0.out.e;rw[HBZ.out] at h;exact h
 have HB0:Hid (Below b w w0):=by have h:=HT0.out.b;rw[HBZ.out] at h;exact h
 have hz0:b+3≤w0.heap.size:=by have h:=HT0.out.s;have:=HBZ.out;omega
 have HK0:=zh (HK.out.below HB0.out hk0);clear HT0 HK
 go_loopw [7] (fun i wr=>∃ k:Nat,k≤68∧i=.int .i64 k∧Hid (EndsIn wr (b+1+1) k (xC x leaf))∧Hid (Below (b+1+1) w0 wr)) (fun i _=>68-(intOf i).toNat)
 case atStart=>exact⟨0,by omega,rfl,⟨fun i hi=>absurd hi zo,HE0.out⟩,Below.refl _ _⟩
 case round =>
  clear HE0;obtain⟨k,hk,rfl,HER,HBR⟩:=hrel;have hszr:b+3≤wr.heap.size:=by have:=HBR.out.size;omega
  have HKR:Hid (KayIn wr):=HK0.out.below HBR.out zo;have hkr:4<wr.heap.size:=by omega
  by_cases hlt:k<68
  ·have HXR:Hid (Ah wr b (hvA x) 42):=(HBR.out.block b zo).trans HX0.out;have hd1:decide ((k:Int)<68)=true:=by simp;omega
   have p1:(0:Int)≤(k:Int):=by omega
   have p2:(k:Int)<68:=by omega
   go_wp2_with (refine wpList_load_row rfl 42 _ rfl b rfl 42 _ (0,0) _ HXR.out Tryz.underlying42 rfl (aI HS.out) ?_)
   refine (tO x leaf k wr HS.out HKR.out hkr).mono ?_;rintro e w5 ⟨rfl,hb5⟩;have HB5:=zh hb5;clear hb5;have HK5:=zh (HKR.out.below HB5.out hkr);have hk5:4<w5.heap.size:=by have:=HB5.out.size;omega
   go_wp2_with fail;refine (sD (xB x leaf k) leaf k 0 3 w5 (dF _ _ _) HK5.out hk5).mono ?_;rintro e w6 ⟨rfl,hb6⟩;have HB6:=zh (HB5.out.trans (hb6.mono HB5.out.size));clear hb6;have HE6:Hid (EndsIn w6 (b+1+1) k (xC x leaf)):=HER.out.below HB6.out zo;have HEE:Hid (dC (xB x leaf k) leaf k 0 3=xC x leaf k):=rfl;rw[HEE.out];have HSE:Hid ((hvA (xC x leaf k)).size=16):=by show _=_;simp[hvA,(nS x leaf k).1]
   go_wp2_with (refine wpList_store_mid rfl 42 _ _ rfl (b+1+1) (k*16) (hvA (xC x leaf k)) rfl rfl (by rw[HSE.out];exact HE6.out.at_ hlt) (aI (nS _ _ _)) (cM _) ?_;generalize hw7:World.setCells w6 _ _ _=w7;have HE7:Hid (EndsIn w7 (b+1+1) (k+1) (xC x leaf)):=(by rw[←hw7];exact HE6.out.put (fun i _=>nS _ _ i) hlt);have HB7:Hid (Below (b+1+1) w0 w7):=(by rw[←hw7];exact dW zl _ _ _ (HBR.out.trans (HB6.out.mono zo)));clear hw7)
   go_roundw
   case rel=>exact⟨k+1,by omega,by go_num,HE7,HB7⟩
   case measure=>simp[intOf];omega
  ·obtain rfl:k=68:=by omega
   have hd1:decide (((68:Nat):Int)<68)=false:=by simp
   have HHV:=zh (HER.out.hvs (fun i _=>nS x leaf i) zo);have HZR:Hid (Ah wr (b+1) (Array.replicate 16 (Value.int .u8 0)) 42):=(HBR.out.block _ zo).trans HZ0.out;have HBW:Hid (Below b w wr):=HB0.out.trans (HBR.out.mono zo);go_wp2_with fail;refine (sC leaf _ 68 68 _ wr HHV.out zo HKR.out hkr).mono ?_;rintro e w6 ⟨rfl,hb6⟩;have HZ6:Hid (Ah w6 (b+1) (Array.replicate 16 (Value.int .u8 0)) 42):=(hb6.block _ zo).trans HZR.out;have HB6:Hid (Below b w w6):=HBW.out.trans (hb6.mono zo);have HPE:Hid (OF leaf ((List.range 68).map (xC x leaf))=OD x leaf):=rfl;rw[HPE.out];clear hb6
   go_wp2_with (refine wpList_store_row rfl 42 _ _ rfl (b+1) _ rfl rfl 42 _ HZ6.out (aI (fE _ _)) (cE (fE _ _)) (cM _) ?_)
   exact bodyPost_ret (results_cell_row (P:=Tryz.prog) rfl _ _ (b+1) 42 _ (0,0) _ rfl (setRow_heap _ _ _ _ _ _ HZ6.out) Tryz.underlying42 rfl (aI (fE _ _))) rfl ⟨rfl,by rw[HBZ.out];exact below_setRow HB6.out zo _⟩
theorem kD {w:World} {o:Oper} {a:Act} {K:Act→World→Prop} {Q:Exit→Act→World→Prop} (s x:Operand)
 (ho:o.op=.call { callee:=.builtin .append,args:=#[s,x],argTypes:=#[46,46] }) (base:Nat) (v:Value) (l:List (List Int)) (n:Nat) (hn:n=l.length) (hs:a.eval s=v) (hown:OwnHv w base v l)
 (g:Nat) (y:List Int) (hx:a.eval x=.slice (some ⟨g,0,none⟩) 1 1) (hy:w.rangeAt g 0 (y.map (Value.int .u8))) (hok:H16 y) (hlen:n≤1000000) (hbase:base≤w.heap.size)
 (h:∀ sp cap w',Hid (OwnHv w' base (.slice sp (n+1) cap) (l++[y]))→Hid (Below base w w')→Hid (w.grownBy w' v.ownBlock)→K (a.put o.dst (.slice sp (n+1) cap)) w'):o.wp Tryz.prog a w K Q:=by
 subst hn;obtain⟨i0,hi0,hz0,hz1,hz2⟩:=bF pQ;refine wp_append_own w s x _ ho base _ i0 _ 16 16 Tryz.underlying46 hi0 hz0 hz1 hz2 rfl (by decide) v l.length _ hs hown.1 ⟨g,0,none⟩ 1 1 (y.map (Value.int .u8)) hx (by rw[List.length_map,hok.1]) ?_ (jG _ _) (by unfold maxLen;omega) zo hbase ?_
 ·intro j u hj;rw[Addr.add_mid];exact hy j u hj
 ·intro v' w' h1 h2 _;obtain⟨sp,cap,rfl⟩:=aM h1;refine h sp cap w' ⟨by rw[tP,List.length_append];exact h1,fun z hz=>?_⟩ ((Below.refl base w).grown h2 hbase (bO hown.1)) h2;rcases List.mem_append.1 hz with hz | hz
  ·exact hown.2 z hz
  ·rw[List.mem_singleton.1 hz];exact hok
def DgIn (w:World) (g:Nat) (l:List Int):Prop:=∃ cur,w.heap[g]? = some (.cells cur 3 (0,0))∧∀ j,j<l.length→cur[j]? = some (.int .i64 (l.getD j 0))
theorem OwnN.dg {w:World} {base:Nat} {sp:Option Addr} {n cap:Nat} {l:List Int} (h:OwnN w base (.slice sp n cap) l) (hl:l.length=n) (hn:0<n):∃ g,sp=some ⟨g,0,none⟩∧base≤g∧DgIn w g l∧n≤cap:=by
 obtain⟨h0,h | ⟨g,c,cur,e,hg,h1,h2,h3,h4,h5⟩⟩:=h
 ·have e:=h.1;simp only[Value.slice.injEq] at e;omega
 ·simp only[Value.slice.injEq] at e;obtain⟨e1,e2,e3⟩:=e;subst e3;refine⟨g,e1,hg,⟨cur,h1,fun j hj=>?_⟩,by omega⟩;have h6:(nv l)[j]? = some (.int .i64 (l.getD j 0)):=by
   unfold nv;rw[List.getElem?_map,List.getD_eq_getElem?_getD,List.getElem?_eq_getElem hj];rfl
  rw[←h5,List.getElem?_take,if_pos zo] at h6;simpa using h6
theorem DgIn.cell {w:World} {g:Nat} {l:List Int} (h:DgIn w g l) {j:Nat} (hj:j<l.length):w.cell? ⟨g,j,none⟩=some (.int .i64 (l.getD j 0)):=by
 obtain⟨cur,h1,h2⟩:=h;rw[cell_of_row w g j cur _ _ h1];exact h2 j hj
theorem DgIn.lt {w:World} {g:Nat} {l:List Int} (h:DgIn w g l):g<w.heap.size:=by obtain⟨cur,h1,_⟩:=h;exact (Array.getElem?_eq_some_iff.1 h1).1
theorem DgIn.below {w w':World} {g B:Nat} {l:List Int} (h:DgIn w g l) (hb:Below B w w') (hg:g<B):DgIn w' g l:=by
 obtain⟨cur,h1,h2⟩:=h;exact⟨cur,(hb.block g hg).trans h1,h2⟩
theorem DgIn.grown {w w':World} {g base:Nat} {l:List Int} {v:Value} {hs:List (List Int)} (h:DgIn w g l) (ho:OwnHv w base v hs) (hg:w.grownBy w' v.ownBlock):DgIn w' g l:=by
 have hlt:=h.lt;obtain⟨cur,h1,h2⟩:=h;refine⟨cur,(hg.block g hlt (fun ek=>?_)).trans h1,h2⟩;obtain⟨_,⟨rfl,_⟩ | ⟨g2,cap,cur2,rfl,_,hg2,_⟩⟩:=ho.1
 ·simp[Value.ownBlock] at ek
 ·have e2:g=g2:=by simpa [Value.ownBlock] using ek
  subst e2;rw[h1] at hg2;injection hg2 with e3
  simp at e3
theorem mT {g k:Nat} (hk:k≠g):∀ (vs:List Value) (o:Nat) (w:World),(w.setCells g o vs).heap[k]? = w.heap[k]?
 | [],_,_=>rfl
 | v :: r,o,w=>(mT hk r (o+1) _).trans (Below.heap_setCell w ⟨g,o,none⟩ v k hk)
theorem DgIn.put {w:World} {g b o:Nat} {l:List Int} {vs:List Value} (h:DgIn w g l) (hne:g≠b):DgIn (w.setCells b o vs) g l:=by
 obtain⟨cur,h1,h2⟩:=h;exact⟨cur,(mT hne vs o w).trans h1,h2⟩
theorem WI {d:List Int} (hd:D32 d) {k:Nat} (hk:k<68):0≤(digs d).getD k 0∧(digs d).getD k 0≤3:=by
 have hl:=cX hd.1;have e:(digs d).getD k 0=(digs d)[k]'(by omega):=by rw[List.getD_eq_getElem?_getD,List.getElem?_eq_getElem zo];rfl
 rw[e];exact GT (List.getElem_mem _)
def AV (x:List Int) (leaf:Int) (d:List Int) (i:Nat):List Int:=dC (xB x leaf i) leaf i 0 ((digs d).getD i 0)
def jA (x:List Int) (leaf:Int) (d:List Int):List (List Int):=(List.range 68).map (AV x leaf d)
theorem DD (x:List Int) (leaf:Int) (d:List Int) (i:Nat):H16 (AV x leaf d i):=pA (dF _ _ _) _ _ _ _
def SR (leaf:Int) (d:List Int) (sig:List (List Int)) (i:Nat):List Int:=dC (sig.getD i []) leaf i ((digs d).getD i 0) 3
def PO (leaf:Int) (d:List Int) (sig:List (List Int)):List Int:=OF leaf ((List.range 68).map (SR leaf d sig))
theorem mY (leaf:Int) (d:List Int) (sig:List (List Int)):H16 (PO leaf d sig):=gV _ _
theorem BA (x:List Int) (leaf:Int) (w:World) (hs:H16 x) :
 Calls Tryz.prog 111 #[.agg (hvA x),.int .i64 leaf] w fun e w'=>e=.returned (.agg (hvA (OD x leaf)))∧Below w.heap.size w w':=by
 have HS:=zh hs;clear hs;have HT:=zh (Two.new w x)
 go_enter Tryz.func111,Tryz.ntmps111
 go_wp2_with fail;generalize hw0:World.alloc (World.alloc w _) _=w0;have HT0:Hid (Two w x w0):=by rw[←hw0];exact HT.out
 clear hw0 HT;generalize hb:w.heap.size=b at *;have HBZ:=zh hb;clear hb;have HX0:Hid (w0.heap[b]? = some (.cells (hvA x) 42 (0,0))):=by have h:=HT0.out.x;rw[HBZ.out] at h;exact h
 have HZ0:Hid (w0.heap[b+1]? = some (.cells (Array.replicate 16 (Value.int .u8 0)) 42 (0,0))):=by have h:=HT0.out.z;rw[HBZ.out] at h;exact h
 have HB0:Hid (Below b w w0):=by have h:=HT0.out.b;rw[HBZ.out] at h;exact h
 have hz0:b+2≤w0.heap.size:=by have h:=HT0.out.s;have:=HBZ.out;omega
 clear HT0
 go_loopw [5,6] (fun v i wr=>∃ k:Nat,k≤68∧i=.int .i64 k∧Hid (OwnHv wr (b+2) v ((List.range k).map (xC x leaf)))∧Hid (Below (b+2) w0 wr)) (fun _ i _=>68-(intOf i).toNat)
 case atStart=>exact⟨0,by omega,rfl,OwnHv.nil _ _,Below.refl _ _⟩
 case round =>
  obtain⟨k,hk,rfl,HOW,HBR⟩:=hrel;have hszr:b+2≤wr.heap.size:=by have:=HBR.out.size;omega
  by_cases hlt:k<68
  ·have HXR:Hid (Ah wr b (hvA x) 42):=(HBR.out.block b zo).trans HX0.out;have hd1:decide ((k:Int)<68)=true:=by simp;omega
   go_wp2_with (refine wpList_load_row rfl 42 _ rfl b rfl 42 _ (0,0) _ HXR.out Tryz.underlying42 rfl (aI HS.out) ?_)
   refine (rL x leaf k wr HS.out).mono ?_;rintro e w5 ⟨rfl,hb5⟩;have HB5:=zh hb5;clear hb5;go_wp2_with fail;refine (tQ (xB x leaf k) leaf k 0 3 w5 (dF _ _ _)).mono ?_;rintro e w6 ⟨rfl,hb6⟩;have HB6:=zh (HB5.out.trans (hb6.mono HB5.out.size));clear hb6;have hs6:b+2≤w6.heap.size:=by have:=HB6.out.size;omega
   have HO6:=zh (HOW.out.below HB6.out);have HSN:=zh (eJ (xC x leaf) k);have HLK:Hid (k=((List.range k).map (xC x leaf)).length):=by show _=_;simp
   have HY:=zh (nS x leaf k);have HEE:Hid (dC (xB x leaf k) leaf k 0 3=xC x leaf k):=rfl;rw[HEE.out];clear HEE;generalize xC x leaf k=y at *
   go_wp2_with (first
    | (refine aT rfl 46 1 [(0,.tmp 18)] rfl [(0,.agg (hvA y))] rfl _ _ (gD _ y HY.out) ?_;generalize hw7:World.alloc w6 _=w7;have hr7:w7.rangeAt w6.heap.size 0 (y.map (Value.int .u8)):=(by rw[←hw7];intro j v hv;rw[Nat.zero_add];exact aG (heap_alloc_new w6 _) hv);have hb7:Below w6.heap.size w6 w7:=(by rw[←hw7];exact aA _ _);have HR7:=zh hr7;have HB7:=zh hb7;have HO7:=zh (HO6.out.below hb7);have hs7:=hb7.size;have hs7b:b+2≤w7.heap.size:=(by omega);clear hw7 hr7 hb7)
    | (at_builtin;refine cG rfl (.tmp 11) (.tmp 19) rfl (b+2) _ _ k HLK.out rfl HO7.out w6.heap.size y rfl HR7.out HY.out zo hs7b ?_;intro sp8 cap8 w8 HO8 HB8 HG8))
   go_roundw
   case rel=>exact⟨k+1,by omega,by go_num,by rw[HSN.out];exact HO8,HBR.out.trans ((HB6.out.mono zo).trans ((HB7.out.mono zo).trans HB8.out))⟩
   case measure=>simp[intOf];omega
  ·obtain rfl:k=68:=by omega
   have hd1:decide (((68:Nat):Int)<68)=false:=by simp
   obtain⟨sp',cap',rfl⟩:=aM HOW.out.1;have XR:Hid (((List.range 68).map (xC x leaf)).length=68):=by show _=_;simp
   have HHV:Hid (HvsIn wr wr.heap.size sp' 68 cap' ((List.range 68).map (xC x leaf))):=by
    have h:=HOW.out;rw[XR.out] at h;exact h.hvs XR.out
   have HZR:Hid (Ah wr (b+1) (Array.replicate 16 (Value.int .u8 0)) 42):=(HBR.out.block _ zo).trans HZ0.out;have HBW:Hid (Below b w wr):=HB0.out.trans (HBR.out.mono zo);rw[XR.out];go_wp2_with fail;refine (yM leaf sp' 68 cap' _ wr HHV.out zo).mono ?_;rintro e w6 ⟨rfl,hb6⟩;have HZ6:Hid (Ah w6 (b+1) (Array.replicate 16 (Value.int .u8 0)) 42):=(hb6.block _ zo).trans HZR.out;have HB6:Hid (Below b w w6):=HBW.out.trans (hb6.mono zo);have HPE:Hid (OF leaf ((List.range 68).map (xC x leaf))=OD x leaf):=rfl;rw[HPE.out];clear hb6
   go_wp2_with (refine wpList_store_row rfl 42 _ _ rfl (b+1) _ rfl rfl 42 _ HZ6.out (aI (fE _ _)) (cE (fE _ _)) (cM _) ?_)
   exact bodyPost_ret (results_cell_row (P:=Tryz.prog) rfl _ _ (b+1) 42 _ (0,0) _ rfl (setRow_heap _ _ _ _ _ _ HZ6.out) Tryz.underlying42 rfl (aI (fE _ _))) rfl ⟨rfl,by rw[HBZ.out];exact below_setRow HB6.out zo _⟩
theorem OwnHv.base {w:World} {base base':Nat} {v:Value} {l:List (List Int)} (h:OwnHv w base v l) (hb:base'≤base):OwnHv w base' v l:=by
 refine⟨?_,h.2⟩;obtain⟨h0,h | ⟨g,cap,cur,rfl,hg,h1,h2,h3,h4,h5⟩⟩:=h.1
 ·exact⟨h0,.inl h⟩
 ·exact⟨h0,.inr ⟨g,cap,cur,rfl,by omega,h1,h2,h3,h4,h5⟩⟩
structure TwoD (w:World) (x d:List Int) (w0:World):Prop where
 x:w0.heap[w.heap.size]? = some (.cells (hvA x) 42 (0,0))
 d:w0.heap[w.heap.size+1]? = some (.cells (dgA d) 77 (0,0))
 b:Below w.heap.size w w0
 s:w0.heap.size=w.heap.size+2
theorem TwoD.new (w:World) (x d:List Int):TwoD w x d ((w.alloc (.cells (hvA x) 42)).alloc (.cells (dgA d) 77)) :=
 ⟨(heap_alloc_old _ _ (by simp)).trans (heap_alloc_new w _),by have h:=heap_alloc_new (w.alloc (.cells (hvA x) 42)) (.cells (dgA d) 77);rw[World.size_alloc] at h;exact h,((Below.refl _ _).alloc zl _).alloc (by simp) _,by simp⟩
theorem vK {d:List Int} (hd:D32 d):(Tryz.prog.info? 77).map (·.size)=some (dgA d).size:=by
 have h:=DV hd;rw[h];simp[dgA]
theorem bS {h:List Int} (hh:H16 h):(Tryz.prog.info? 42).map (·.size)=some (h.map (Value.int .u8)).length:=by
 rw[List.length_map,hh.1];exact LX
theorem gP {P:Program} {w:World} {o:Oper} {a:Act} {K:Act→World→Prop} {Q:Exit→Act→World→Prop} (t:TypeId) (n:Nat) (parts:List (Nat × Operand)) (ho:o.op=.buildSlice t n parts.toArray)
 (vs:List (Nat × Value)) (hv:(parts.map fun (i,x)=>(i,a.eval x))=vs) (v:Value) (w':World) (hrun:(Instr.buildSlice t n vs.toArray).run P w=.ok v w') (h:K (a.put o.dst v) w'):o.wp P a w K Q:=by
 unfold Oper.wp execOp;simp only[ho,Sem.run_bind,List.map_toArray,hv,hrun,Result.andThen_ok];exact h
theorem PC (x:List Int) (leaf:Int) (d:List Int) (w:World) (hs:H16 x) (hd:D32 d) (hk:KayIn w) (hk0:4<w.heap.size) :
 Calls Tryz.prog 93 #[.agg (hvA x),.int .i64 leaf,.agg (dgA d)] w fun e w'=>∃ sp cap,e=.returned (.slice sp 68 cap)∧OwnHv w' w.heap.size (.slice sp 68 cap) (jA x leaf d)∧Below w.heap.size w w':=by
 have HK:=zh hk;clear hk;have HS:=zh hs;have HD:=zh hd;clear hs hd;have HT:=zh (TwoD.new w x d);obtain⟨i0,hi0,hz0,hz1,hz2⟩:=bF pQ;have HI0:=zh hi0;have HZ0:=zh hz0;have HZ1:=zh hz1;have HZ2:=zh hz2;clear hi0 hz0 hz1 hz2
 go_enter Tryz.func93,Tryz.ntmps93
 go_wp2_with (first
  | (at_make;generalize hw0:World.alloc (World.alloc w _) _=w0;have HT0:Hid (TwoD w x d w0):=(by rw[←hw0];exact HT.out);clear hw0 HT;have hs0:w.heap.size+2≤w0.heap.size:=Nat.le_of_eq HT0.out.s.symm;refine wpList_make_own _ rfl _ _ 46 rfl (w.heap.size+2) 42 i0 _ 16 Tryz.underlying46 HI0.out HZ0.out HZ1.out .i64 .i64 68 68 rfl rfl rfl (by rw[HZ2.out];decide) (by unfold maxLen;decide) hs0 ?_;intro w1 HO1 HG1;have HO1':=zh HO1;have HB1:Hid (Below (w.heap.size+2) w0 w1):=(Below.refl _ w0).grown HG1 hs0 (fun k e=>by cases e);have HDR:Hid (Ah w1 (w.heap.size+1) (dgA d) 77):=(HB1.out.block _ zo).trans HT0.out.d;have hs1:w.heap.size+2≤w1.heap.size:=(by have:=HB1.out.size;omega);clear HO1 HG1)
  | (refine wpList_load_row rfl 77 _ rfl (w.heap.size+1) rfl 77 _ (0,0) _ HDR.out Tryz.underlying77 rfl (vK HD.out) ?_))
 refine (uE d HD.out w1).mono ?_;rintro e w2 ⟨spd,capd,rfl,hdg,hb2⟩;obtain⟨gd,rfl,hgd,hdgi,hcap⟩:=hdg.dg (cX HD.out.1) (by decide);generalize hb:w.heap.size=b at *;have HBZ:=zh hb;clear hb hdg;have HX2:Hid (w2.heap[b]? = some (.cells (hvA x) 42 (0,0))):=by
  have h:=HT0.out.x;rw[HBZ.out] at h;exact (hb2.block b zo).trans ((HB1.out.block b zo).trans h)
 have HB2:Hid (Below b w w2):=by
  have h:=HT0.out.b;rw[HBZ.out] at h;exact h.trans ((HB1.out.mono zo).trans (hb2.mono zo))
 have HDG:=zh hdgi;have hz2:b+2≤w2.heap.size:=by have:=hb2.size;omega
 have HO2:Hid (OwnHv w2 (b+2) (.slice (some ⟨w0.heap.size,0,none⟩) 0 68) []):=⟨eB HO1'.out hb2,by simp⟩;have HK2:=zh (HK.out.below HB2.out hk0);clear HT0 HB1 hb2 hdgi hs0 hs1 HO1' HDR HI0 HZ0 HZ1 HZ2 HK;go_wp2_with fail
 go_loopw [7,14] (fun v i wr=>∃ k:Nat,k≤68∧i=.int .i64 k∧Hid (OwnHv wr (b+2) v ((List.range k).map (AV x leaf d)))∧Hid (DgIn wr gd (digs d))∧Hid (Below (b+2) w2 wr)) (fun _ i _=>68-(intOf i).toNat)
 case atStart=>exact⟨0,by omega,rfl,HO2.out,HDG.out,Below.refl _ _⟩
 case round =>
  clear HO2 HDG;obtain⟨k,hk,rfl,HOW,HDW,HBR⟩:=hrel;have hszr:b+2≤wr.heap.size:=by have:=HBR.out.size;omega
  by_cases hlt:k<68
  ·have HXR:Hid (Ah wr b (hvA x) 42):=(HBR.out.block b zo).trans HX2.out;have c1:=HDW.out.cell (j:=k) (by rw[cX HD.out.1];exact hlt);have HGL:=zh HDW.out.lt;have HSN:=zh (eJ (AV x leaf d) k);have HLK:Hid (k=((List.range k).map (AV x leaf d)).length):=by show _=_;simp
   have HY:=zh (DD x leaf d k);have HEE:Hid (dC (xB x leaf k) leaf k 0 ((digs d).getD k 0)=AV x leaf d k):=rfl;generalize AV x leaf d k=y at *;generalize (digs d).getD k 0=q at *;have hd1:decide ((k:Int)<68)=true:=by simp;omega
   have p1:(0:Int)≤(k:Int):=by omega
   have p2:(k:Int)<68:=by omega
   have HKR:Hid (KayIn wr):=HK2.out.below HBR.out zo;have hkr:4<wr.heap.size:=by omega
   go_wp2_with (refine wpList_load_row rfl 42 _ rfl b rfl 42 _ (0,0) _ HXR.out Tryz.underlying42 rfl (aI HS.out) ?_)
   refine (tO x leaf k wr HS.out HKR.out hkr).mono ?_;rintro e w5 ⟨rfl,hb5⟩;have HB5:=zh hb5;clear hb5;have HK5:=zh (HKR.out.below HB5.out hkr);have hk5:4<w5.heap.size:=by have:=HB5.out.size;omega
   go_wp2_with fail;refine (sD (xB x leaf k) leaf k 0 q w5 (dF _ _ _) HK5.out hk5).mono ?_;rintro e w6 ⟨rfl,hb6⟩;have HB6:=zh (HB5.out.trans (hb6.mono HB5.out.size));clear hb6;have hs6:b+2≤w6.heap.size:=by have:=HB6.out.size;omega
   have HO6:=zh (HOW.out.below HB6.out);rw[HEE.out]
   go_wp2_with (first
    | (refine aT rfl 46 1 [(0,.tmp 27)] rfl [(0,.agg (hvA y))] rfl _ _ (gD _ y HY.out) ?_;generalize hw7:World.alloc w6 _=w7;have hr7:w7.rangeAt w6.heap.size 0 (y.map (Value.int .u8)):=(by rw[←hw7];intro j v hv;rw[Nat.zero_add];exact aG (heap_alloc_new w6 _) hv);have hb7:Below w6.heap.size w6 w7:=(by rw[←hw7];exact aA _ _);have HR7:=zh hr7;have HB7:=zh hb7;have HO7:=zh (HO6.out.below hb7);have hs7:=hb7.size;have hs7b:b+2≤w7.heap.size:=(by omega);clear hw7 hr7 hb7)
    | (at_builtin;refine cG rfl (.tmp 19) (.tmp 28) rfl (b+2) _ _ k HLK.out rfl HO7.out w6.heap.size y rfl HR7.out HY.out zo hs7b ?_;intro sp8 cap8 w8 HO8 HB8 HG8))
   have HD7:Hid (DgIn w7 gd (digs d)):=(HDW.out.below HB6.out HGL.out).below HB7.out (by have:=HB6.out.size;have:=HGL.out;omega);go_roundw
   case rel=>exact⟨k+1,by omega,by go_num,by rw[HSN.out];exact HO8,HD7.out.grown HO7.out HG8.out,HBR.out.trans ((HB6.out.mono zo).trans ((HB7.out.mono zo).trans HB8.out))⟩
   case measure=>simp[intOf];omega
  ·obtain rfl:k=68:=by omega
   have hd1:decide (((68:Nat):Int)<68)=false:=by simp
   obtain⟨sp',cap',rfl⟩:=aM HOW.out.1;have XR:Hid (((List.range 68).map (AV x leaf d)).length=68):=by show _=_;simp
   rw[XR.out] at *;go_wp2_with fail;go_ret;exact⟨sp',cap',rfl,by rw[HBZ.out];exact (HOW.out).base zo,by rw[HBZ.out];exact HB2.out.trans (HBR.out.mono zo)⟩
theorem KG (x:List Int) (leaf:Int) (d:List Int) (w:World) (hs:H16 x) (hd:D32 d) :
 Calls Tryz.prog 69 #[.agg (hvA x),.int .i64 leaf,.agg (dgA d)] w fun e w'=>∃ sp cap,e=.returned (.slice sp 68 cap)∧OwnHv w' w.heap.size (.slice sp 68 cap) (jA x leaf d)∧Below w.heap.size w w':=by
 skip
 have HS:=zh hs;have HD:=zh hd;clear hs hd;have HT:=zh (TwoD.new w x d)
 go_enter Tryz.func69,Tryz.ntmps69
 go_wp2_with (generalize hw0:World.alloc (World.alloc w _) _=w0;have HT0:Hid (TwoD w x d w0):=(by rw[←hw0];exact HT.out);clear hw0 HT;have hs0:w.heap.size+2≤w0.heap.size:=Nat.le_of_eq HT0.out.s.symm;have HDR:=zh (HT0.out.d);refine wpList_load_row rfl 77 _ rfl (w.heap.size+1) rfl 77 _ (0,0) _ HDR.out Tryz.underlying77 rfl (vK HD.out) ?_)
 obtain⟨w1,hw1⟩:∃ w1,w1=w0:=⟨_,rfl⟩;have HB1:Hid (Below (w.heap.size+2) w0 w1):=by rw[hw1];exact Below.refl _ _
 rw[←hw1];have hs1:w.heap.size+2≤w1.heap.size:=by rw[hw1];exact hs0
 clear hw1 HDR;refine (BG d HD.out w1).mono ?_;rintro e w2 ⟨spd,capd,rfl,hdg,hb2⟩;obtain⟨gd,rfl,hgd,hdgi,hcap⟩:=hdg.dg (cX HD.out.1) (by decide);generalize hb:w.heap.size=b at *;have HBZ:=zh hb;clear hb hdg;have HX2:Hid (w2.heap[b]? = some (.cells (hvA x) 42 (0,0))):=by
  have h:=HT0.out.x;rw[HBZ.out] at h;exact (hb2.block b zo).trans ((HB1.out.block b zo).trans h)
 have HB2:Hid (Below b w w2):=by
  have h:=HT0.out.b;rw[HBZ.out] at h;exact h.trans ((HB1.out.mono zo).trans (hb2.mono zo))
 have HDG:=zh hdgi;have hz2:b+2≤w2.heap.size:=by have:=hb2.size;omega
 have HO2:Hid (OwnHv w2 (b+2) (.slice none 0 0) []):=OwnHv.nil _ _
 skip
 clear HT0 HB1 hb2 hdgi hs0 hs1;go_wp2_with fail
 go_loopw [8,9] (fun v i wr=>∃ k:Nat,k≤68∧i=.int .i64 k∧Hid (OwnHv wr (b+2) v ((List.range k).map (AV x leaf d)))∧Hid (DgIn wr gd (digs d))∧Hid (Below (b+2) w2 wr)) (fun _ i _=>68-(intOf i).toNat)
 case atStart=>exact⟨0,by omega,rfl,HO2.out,HDG.out,Below.refl _ _⟩
 case round =>
  clear HO2 HDG;obtain⟨k,hk,rfl,HOW,HDW,HBR⟩:=hrel;have hszr:b+2≤wr.heap.size:=by have:=HBR.out.size;omega
  by_cases hlt:k<68
  ·have HXR:Hid (Ah wr b (hvA x) 42):=(HBR.out.block b zo).trans HX2.out;have c1:=HDW.out.cell (j:=k) (by rw[cX HD.out.1];exact hlt);have HGL:=zh HDW.out.lt;have HSN:=zh (eJ (AV x leaf d) k);have HLK:Hid (k=((List.range k).map (AV x leaf d)).length):=by show _=_;simp
   have HY:=zh (DD x leaf d k);have HEE:Hid (dC (xB x leaf k) leaf k 0 ((digs d).getD k 0)=AV x leaf d k):=rfl;generalize AV x leaf d k=y at *;have hqk:(some (.int .i64 ((digs d).getD k 0)):Option Value)=some (.int .i64 ((digs d).getD k 0)):=rfl;obtain⟨q,hq⟩:∃ q,q=(digs d).getD k 0:=⟨_,rfl⟩;rw[←hq] at c1 HEE;have HQK:Hid ((some (.int .i64 ((digs d).getD k 0)):Option Value)=some (.int .i64 q)):=by rw[hq];exact rfl
   clear hqk hq;have hd1:decide ((k:Int)<68)=true:=by simp;omega
   have p1:(0:Int)≤(k:Int):=by omega
   have p2:(k:Int)<68:=by omega
   have HID:=zh (bS HS.out);have HXG:Hid (wr.rangeAt b 0 (x.map (Value.int .u8))):=by intro j v hv;rw[Nat.zero_add];exact aG HXR.out hv
   have HCS:=zh (fun w'=>(show Calls Tryz.prog 110 #[.agg (x.map (Value.int .u8)).toArray,.int .i64 leaf,.int .i64 k] w' fun e w''=>e=.returned (.agg (hvA (xB x leaf k)))∧Below w'.heap.size w' w'' from rL x leaf k w' HS.out));have HCC:=zh (fun w'=>(show Calls Tryz.prog 109 #[.agg (hvA (xB x leaf k)),.int .i64 leaf,.int .i64 k,.int .i64 0,.int .i64 q] w' fun e w''=>e=.returned (.agg (hvA y))∧Below w'.heap.size w' w'' from by rw[←HEE.out];exact tQ (xB x leaf k) leaf k 0 q w' (dF _ _ _)));go_wp2_with fail;refine wp_region_held_drew (S:=fun w'=>w'.rangeAt b 0 (x.map (Value.int .u8))∧w'.cell? ⟨gd,k,none⟩=some (.int .i64 q)) (by kernel_rfl) ⟨HXG.out,c1⟩ (fun hHeld=>?_);refine zv 0 rfl ?_;refine' zk 1 rfl (v:=_) (yieldsIf_load_mid (by rfl) _ _ rfl _ _ rfl _ _ ?hS1n2 Tryz.underlying42 rfl HID.out) ?rest1n2
   case hS1n2 =>
    intro w' hSw;exact hSw.1
   try simp only[Act.put,zu]
   refine zv 2 rfl ?_;refine zv 3 rfl ?_;refine zv 5 rfl ?_;refine zv 6 rfl ?_;refine zv 7 rfl ?_;refine zv 8 rfl ?_;refine zv 9 rfl ?_;refine zx 10 rfl (v:=?_) ?_ ?_;rotate_left
   ·intro w' hSw;have hq:=hSw.2;go_simp;try with_reducible rfl
   refine zr 4 rfl (fun K hK=>?_);go_simp
   with_reducible refine (HCS.out _).mono ?_
   rintro e w5 ⟨rfl,hb⟩;have HB5:Hid (Bw wr w5):=(Below.refl _ _).drew.trans hb;clear hb;have HX5:Hid (w5.rangeAt b 0 (x.map (Value.int .u8))∧w5.cell? ⟨gd,k,none⟩=some (.int .i64 q)):=⟨aB HXG.out HB5.out zo,(HB5.out.cell (p:=⟨gd,k,none⟩) HGL.out).trans c1⟩;go_wp2_with fail;refine hK.out _ _ HX5.out fun _=>?_;clear hK K
   try simp only[Act.put,zu]
   refine zr 11 rfl (fun K hK=>?_);go_simp
   with_reducible refine (HCC.out _).mono ?_
   rintro e w6 ⟨rfl,hb⟩;have HB6:=zh (HB5.out.trans (hb.mono HB5.out.size));clear hb;have HX6:Hid (w6.rangeAt b 0 (x.map (Value.int .u8))∧w6.cell? ⟨gd,k,none⟩=some (.int .i64 q)):=⟨aB HXG.out HB6.out zo,(HB6.out.cell (p:=⟨gd,k,none⟩) HGL.out).trans c1⟩;have hs6:b+2≤w6.heap.size:=by have:=HB6.out.size;omega
   have HO6:=zh (HOW.out.below HB6.out);go_wp2_with fail;refine hK.out _ _ HX6.out fun _=>?_;clear hK K
   try simp only[Act.put,zu]
   refine zr 12 rfl (fun K hK=>?_);rw[if_pos (by rfl)];refine gP 46 1 [(0,.tmp 27)] rfl [(0,.agg (hvA y))] rfl _ _ (gD _ y HY.out) ?_;generalize hw7:World.alloc w6 _=w7;have hr7:w7.rangeAt w6.heap.size 0 (y.map (Value.int .u8)):=by rw[←hw7];intro j v hv;rw[Nat.zero_add];exact aG (heap_alloc_new w6 _) hv
   have hb7:Below w6.heap.size w6 w7:=by rw[←hw7];exact aA _ _
   have HR7:=zh hr7;have HB7:=zh hb7;have HO7:=zh (HO6.out.below hb7);have hs7:=hb7.size;have hs7b:b+2≤w7.heap.size:=by omega
   have HD7:Hid (DgIn w7 gd (digs d)):=(HDW.out.below HB6.out HGL.out).below HB7.out (by have:=HB6.out.size;have:=HGL.out;omega);have HX7:Hid (w7.rangeAt b 0 (x.map (Value.int .u8))):=aB HX6.out.1 HB7.out zo;clear hw7 hr7 hb7 hs7;refine hK.out _ _ ⟨HX7.out,(HD7.out.cell (by rw[cX HD.out.1];exact hlt)).trans HQK.out⟩ fun _=>?_;clear hK K
   try simp only[Act.put,zu]
   refine zr 13 rfl (fun K hK=>?_);rw[if_pos (by rfl)];refine kD (.tmp 16) (.tmp 28) rfl (b+2) _ _ k HLK.out rfl HO7.out w6.heap.size y rfl HR7.out HY.out zo hs7b ?_;intro sp8 cap8 w8 HO8 HB8 HG8;have HD8:=zh (HD7.out.grown HO7.out HG8.out);have HX8:Hid (w8.rangeAt b 0 (x.map (Value.int .u8))):=aB HX7.out HB8.out zo;refine hK.out _ _ ⟨HX8.out,(HD8.out.cell (by rw[cX HD.out.1];exact hlt)).trans HQK.out⟩ fun _=>?_;clear hK K
   try simp only[Act.put,zu]
   refine zv 14 rfl ?_;refine zd ?_ _;go_wp2_with fail;go_roundw
   case rel=>exact⟨k+1,by omega,by go_num,by rw[HSN.out];exact HO8,HD8.out,HBR.out.trans ((HB6.out.mono zo).trans ((HB7.out.mono zo).trans HB8.out))⟩
   case measure=>simp[intOf];omega
  ·obtain rfl:k=68:=by omega
   have hd1:decide (((68:Nat):Int)<68)=false:=by simp
   obtain⟨sp',cap',rfl⟩:=aM HOW.out.1;have XR:Hid (((List.range 68).map (AV x leaf d)).length=68):=by show _=_;simp
   rw[XR.out] at *;go_wp2_with fail;go_ret;exact⟨sp',cap',rfl,by rw[HBZ.out];exact (HOW.out).base zo,by rw[HBZ.out];exact HB2.out.trans (HBR.out.mono zo)⟩
theorem aC {P:Program} {fn:Func} {p u:Tmp} {ty:TypeId} (h:fn.results=#[.cell p ty,.tmp u]) (tmps:Array Value) (w:World) (g:Nat) (t:TypeId) (cs:Array Value) (fr:Nat × Nat) (d:TypeDesc)
 (hp:tmps.getD p undef=.pointer (some ⟨g,0,none⟩)) (hg:w.heap[g]? = some (.cells cs t fr))
 (hu:P.underlying ty=some d) (hd:(match d with | .struct _ | .array _ _=>true | _=>false)=true) (hi:(P.info? ty).map (·.size)=some cs.size) :
 (results fn tmps).run P w=.ok (.tuple #[.agg cs,tmps.getD u undef]) w:=by
 rw[results_cell_tmp h,hp];simp[asAddr,run_loadVar_row w g t ty cs fr d hg hu hd hi]
def bQ:List Int:=List.replicate 16 0
theorem aN:H16 bQ:=⟨rfl,fun x hx=>by rw[List.eq_of_mem_replicate hx];omega⟩
structure DTwo (w:World) (d:List Int) (w0:World):Prop where
 d:w0.heap[w.heap.size]? = some (.cells (dgA d) 77 (0,0))
 z:w0.heap[w.heap.size+1]? = some (.cells (Array.replicate 16 (Value.int .u8 0)) 42 (0,0))
 b:Below w.heap.size w w0
 s:w0.heap.size=w.heap.size+2
theorem DTwo.new (w:World) (d:List Int):DTwo w d ((w.alloc (.cells (dgA d) 77)).alloc (.cells (Array.replicate 16 (Value.int .u8 0)) 42)) :=
 ⟨(heap_alloc_old _ _ (by simp)).trans (heap_alloc_new w _),by have h:=heap_alloc_new (w.alloc (.cells (dgA d) 77)) (.cells (Array.replicate 16 (Value.int .u8 0)) 42);rw[World.size_alloc] at h;exact h,((Below.refl _ _).alloc zl _).alloc (by simp) _,by simp⟩
structure DThree (w:World) (d:List Int) (w0:World):Prop where
 d:w0.heap[w.heap.size]? = some (.cells (dgA d) 77 (0,0))
 z:w0.heap[w.heap.size+1]? = some (.cells (Array.replicate 16 (Value.int .u8 0)) 42 (0,0))
 e:w0.there (w.heap.size+1+1) 0 1088
 b:Below w.heap.size w w0
 s:w0.heap.size=w.heap.size+3
theorem DThree.new (w:World) (d:List Int):DThree w d (((w.alloc (.cells (dgA d) 77)).alloc (.cells (Array.replicate 16 (Value.int .u8 0)) 42)).alloc (.cells FC 190)):=by
 have h:=DTwo.new w d;generalize (w.alloc (.cells (dgA d) 77)).alloc (.cells (Array.replicate 16 (Value.int .u8 0)) 42)=w1 at *;have h2:=CY w1 190;have b2:=aA w1 (.cells FC 190);have s2:=aF w1 (.cells FC 190);generalize w1.alloc (.cells FC 190)=w2 at *;have hs:=h.s;rw[hs] at h2;exact⟨(b2.block _ zo).trans h.d,(b2.block _ zo).trans h.z,h2,h.b.trans (b2.mono zo),by omega⟩
theorem vC {leaf:Int} {d:List Int} {w:World} {B:Nat} {sp:Option Addr} {cap:Nat} {sig:List (List Int)} (h:HvsIn w B sp 68 cap sig) (i:Nat) (hi:i<68):H16 (SR leaf d sig i):=pA (h.at16 hi) _ _ _ _
theorem BE (leaf:Int) (d:List Int) (sp:Option Addr) (cap:Nat) (l:List (List Int)) (w:World) (hd:D32 d) (hl:HvsIn w w.heap.size sp 68 cap l) (hk:KayIn w) (hk0:4<w.heap.size) :
 Calls Tryz.prog 135 #[.int .i64 leaf,.agg (dgA d),.slice sp 68 cap] w fun e w'=>e=.returned (.tuple #[.agg (hvA (PO leaf d l)),.bool true])∧Below w.heap.size w w':=by
 have HK:=zh hk;clear hk;have HD:=zh hd;have HLV:=zh hl;obtain⟨sb,so,hpl⟩:=hl.place;obtain rfl:=hpl (by decide);obtain⟨sb',so',he,hsb,hsc,_⟩:=hl.cells (by decide);injection he with he;injection he with he1 he2;subst he1 he2
 clear hd hl hpl;have HT:=zh (DThree.new w d);have hz:=SC
 go_enter Tryz.func135,Tryz.ntmps135
 go_wp2_with (generalize hw0:World.alloc (World.alloc (World.alloc w _) _) _=w0;have HT0:Hid (DThree w d w0):=(by rw[←hw0];exact HT.out);have HDR:=zh (HT0.out.d);clear hw0 HT;refine wpList_load_row rfl 77 _ rfl w.heap.size rfl 77 _ (0,0) _ HDR.out Tryz.underlying77 rfl (vK HD.out) ?_)
 clear hz;refine (uE d HD.out w0).mono ?_;rintro e w2 ⟨spd,capd,rfl,hdg,hb2⟩;obtain⟨gd,rfl,hgd,hdgi,hcap⟩:=hdg.dg (cX HD.out.1) (by decide);have hs0:=HT0.out.s;have HLW:Hid (HvsIn w2 w.heap.size (some ⟨sb,so,none⟩) 68 cap l):=HLV.out.below (HT0.out.b.trans (hb2.mono zo)) zl;generalize hb:w.heap.size=b at *;have HBZ:=zh hb;clear hb hdg;have HZ2:Hid (w2.heap[b+1]? = some (.cells (Array.replicate 16 (Value.int .u8 0)) 42 (0,0))):=by
  have h:=HT0.out.z;rw[HBZ.out] at h;exact (hb2.block _ zo).trans h
 have HB2:Hid (Below b w w2):=by
  have h:=HT0.out.b;rw[HBZ.out] at h;exact h.trans (hb2.mono zo)
 have HDG:=zh hdgi;have hz2:b+2≤w2.heap.size:=by have:=hb2.size;omega
 have HE2:Hid (w2.there (b+1+1) 0 1088):=by have h:=HT0.out.e;rw[HBZ.out] at h;exact kF h hb2 zo
 have hgd2:gd≠b+1+1:=by omega
 have hgz:b+1+1<w2.heap.size:=by have:=hb2.size;omega
 have HK2:=zh (HK.out.below HB2.out hk0);clear HT0 hb2 hdgi hs0 HDR HK;go_wp2_with fail
 go_loopw [18] (fun i wr=>∃ k:Nat,k≤68∧i=.int .i64 k∧Hid (EndsIn wr (b+1+1) k (SR leaf d l))∧Hid (DgIn wr gd (digs d))∧Hid (Below (b+1+1) w2 wr)) (fun i _=>68-(intOf i).toNat)
 case atStart=>exact⟨0,by omega,rfl,⟨fun i hi=>absurd hi zo,HE2.out⟩,HDG.out,Below.refl _ _⟩
 case round =>
  clear HE2 HDG;obtain⟨k,hk,rfl,HER,HDW,HBR⟩:=hrel;have hszr:b+2≤wr.heap.size:=by have:=HBR.out.size;omega
  have hgzr:b+1+1<wr.heap.size:=by have:=HBR.out.size;omega
  have HKR:Hid (KayIn wr):=HK2.out.below HBR.out zo;have hkr:4<wr.heap.size:=by omega
  by_cases hlt:k<68
  ·have c1:=HDW.out.cell (j:=k) (by rw[cX HD.out.1];exact hlt);have HGL:=zh HDW.out.lt;have HSG:Hid (wr.rangeAt sb (so+k*16) ((l.getD k []).map (Value.int .u8))):=by
    obtain⟨sb',so',he,_,_,hr⟩:=(HLW.out.below HBR.out zo).cells (by decide);injection he with he;injection he with he1 he2;subst he1 he2
    exact hr k hlt
   have H16E:=zh (HLW.out.at16 hlt);have HY:=zh (vC (leaf:=leaf) (d:=d) HLW.out k hlt);have HEE:Hid (dC (l.getD k []) leaf k ((digs d).getD k 0) 3=SR leaf d l k):=rfl;generalize hy:SR leaf d l k=y at *;have HYY:=zh hy;clear hy;generalize l.getD k []=z at *;generalize (digs d).getD k 0=q at *;have HIZ:Hid ((Tryz.prog.info? 42).map (·.size)=some (z.map (Value.int .u8)).length):=bS H16E.out;have HCC:=zh (show Calls Tryz.prog 126 #[.agg (z.map (Value.int .u8)).toArray,.int .i64 leaf,.int .i64 k,.int .i64 q,.int .i64 3] wr fun e w''=>e=.returned (.agg (hvA y))∧Below wr.heap.size wr w'' from by rw[←HEE.out];exact sD z leaf k q 3 wr H16E.out HKR.out hkr);have hd1:decide ((k:Int)<68)=true:=by simp;omega
   have p1:(0:Int)≤(k:Int):=by omega
   have p2:(k:Int)<68:=by omega
   go_wp2_with (refine wpList_load_mid rfl 42 _ rfl sb (so+k*16) rfl _ _ HSG.out Tryz.underlying42 rfl HIZ.out ?_)
   refine HCC.out.mono ?_;rintro e w6 ⟨rfl,hb6⟩;have HB6:=zh hb6;clear hb6;have HE6:=zh (HER.out.below HB6.out hgzr);have HSE:Hid ((hvA y).size=16):=by show _=_;simp[hvA,HY.out.1]
   go_wp2_with (refine wpList_store_mid rfl 42 _ _ rfl (b+1+1) (k*16) (hvA y) rfl rfl (by rw[HSE.out];exact HE6.out.at_ hlt) (aI HY.out) (cM _) ?_;generalize hw7:World.setCells w6 _ _ _=w7;have HE7:Hid (EndsIn w7 (b+1+1) (k+1) (SR leaf d l)):=(by rw[←hw7,←HYY.out];exact HE6.out.put (fun i hi=>vC HLW.out i hi) hlt);have HD7:Hid (DgIn w7 gd (digs d)):=(by rw[←hw7];exact (HDW.out.below HB6.out HGL.out).put hgd2);have HB7:Hid (Below (b+1+1) w2 w7):=(by rw[←hw7];exact dW zl _ _ _ (HBR.out.trans (HB6.out.mono zo)));clear hw7)
   go_roundw
   case rel=>exact⟨k+1,by omega,by go_num,HE7,HD7,HB7⟩
   case measure=>simp[intOf];omega
  ·obtain rfl:k=68:=by omega
   have hd1:decide (((68:Nat):Int)<68)=false:=by simp
   have HHV:=zh (HER.out.hvs (fun i hi=>vC HLW.out i hi) hgzr);have HZR:Hid (Ah wr (b+1) (Array.replicate 16 (Value.int .u8 0)) 42):=(HBR.out.block _ zo).trans HZ2.out;have HBW:Hid (Below b w wr):=HB2.out.trans (HBR.out.mono zo);go_wp2_with fail;refine (sC leaf _ 68 68 _ wr HHV.out zo HKR.out hkr).mono ?_;rintro e w6 ⟨rfl,hb6⟩;have HZ6:Hid (Ah w6 (b+1) (Array.replicate 16 (Value.int .u8 0)) 42):=(hb6.block _ zo).trans HZR.out;have HB6:Hid (Below b w w6):=HBW.out.trans (hb6.mono zo);have HPE:Hid (OF leaf ((List.range 68).map (SR leaf d l))=PO leaf d l):=rfl;rw[HPE.out];clear hb6
   go_wp2_with (refine wpList_store_row rfl 42 _ _ rfl (b+1) _ rfl rfl 42 _ HZ6.out (aI (mY _ _ _)) (cE (mY _ _ _)) (cM _) ?_)
   exact bodyPost_ret (aC (P:=Tryz.prog) rfl _ _ (b+1) 42 _ (0,0) _ rfl (setRow_heap _ _ _ _ _ _ HZ6.out) Tryz.underlying42 rfl (aI (mY _ _ _))) rfl ⟨rfl,by rw[HBZ.out];exact below_setRow HB6.out zo _⟩
theorem HvsIn.more {w:World} {B B':Nat} {da:Option Addr} {n cap:Nat} {l:List (List Int)} (h:HvsIn w B da n cap l) (hB:B≤B'):HvsIn w B' da n cap l :=
 ⟨h.len,h.ok,fun hn=>by
  obtain⟨b,off,e,hlt,hc,hr⟩:=h.cells hn;exact⟨b,off,e,by omega,hc,hr⟩⟩
theorem eqHE (X Y:List Int) (hX:X.length=16) (hY:Y.length=16) (w:World) :
 (Op.equalIn 10000 42 (.agg (hvA X)) (.agg (hvA Y))).run Tryz.prog w=.ok (decide (X=Y)) w:=by
 have hc:Tryz.prog.cellsOf 5=1:=by kernel_rfl
 obtain⟨i,hi⟩:∃ i,Tryz.prog.info? 5=some i:=Option.isSome_iff_exists.1 (by kernel_rfl);have h:=run_equalIn_array (P:=Tryz.prog) w 9999 (X.map (Value.int .u8)).toArray (Y.map (Value.int .u8)).toArray Tryz.underlying42 hi;rw[hc] at h;have e:=vT 9998 X Y (List.range 16) w (fun j hj=>by rw[hX,hY];simpa using hj);have r:=pZ X Y zo;rw[hX] at r;rw[r] at e;rw[e] at h;exact h
theorem eqlH {X:List Int} (hX:H16 X) (w:World):(Op.equalIn 10000 42 (.agg (hvA X)) (.agg (hvA X))).run Tryz.prog w=.ok true w:=by
 have h:=eqHE X X hX.1 hX.1 w;rw[decide_eq_true rfl] at h;exact h
theorem VQ {h:List Int} (hh:H16 h):(Tryz.prog.info? 42).map (·.size)=some (h.map (Value.int .u8)).length:=by
 rw[List.length_map,hh.1];exact LX
theorem EN {x:List Int} (leaf c fr:Int) (m:Nat):∀ n,clN x leaf c fr (m+n)=clN (clN x leaf c fr m) leaf c (fr+m) n
 | 0=>rfl
 | n + 1 => by
   rw[←Nat.add_assoc];show iO (clN x leaf c fr (m+n)) leaf c (fr+((m+n:Nat):Int))=iO (clN (clN x leaf c fr m) leaf c (fr+m) n) leaf c (fr+m+n);rw[EN leaf c fr m n,show fr+((m+n:Nat):Int)=fr+m+n by omega]
theorem CG {x:List Int} (leaf k a b c:Int) (h0:0≤a) (h1:a≤b) (h2:b≤c) (h3:c≤3):dC (dC x leaf k a b) leaf k b c=dC x leaf k a c:=by
 unfold dC;rw[if_neg zo,if_neg zo,if_neg zo];have e1:b=a+((b-a).toNat:Int):=by omega
 have e2:(c-a).toNat=(b-a).toNat+(c-b).toNat:=by omega
 rw[e2,EN,←e1]
theorem eqlHn {X:List Int} (hX:H16 X) (w:World):(Op.equalIn 10000 42 (.agg (X.map (Value.int .u8)).toArray) (.agg (X.map (Value.int .u8)).toArray)).run Tryz.prog w=.ok true w:=by
 have h:=eqlH hX w;unfold hvA at h;exact h
theorem QR {a:Act} {o:Oper} {w:World} {x y:Operand} {X:List Int} (hX:H16 X) (ho:o.op=.binOp .neq 42 x y 42) (hx:a.eval x=.agg (X.map (Value.int .u8)).toArray) (hy:a.eval y=.agg (X.map (Value.int .u8)).toArray):(execOp a.eval o).run Tryz.prog w=.ok (Next.value (.bool false)) w:=by
 have hq:=eqlHn hX w;generalize (X.map (Value.int .u8)).toArray=A at *;unfold execOp;simp only[ho,hx,hy];go_simp
theorem ZA (x:List Int) (leaf:Int) (d:List Int) {i:Nat} (hi:i<68):(jA x leaf d).getD i []=AV x leaf d i:=by
 unfold jA;simp[List.getD_eq_getElem?_getD,hi]
theorem yJ {x:List Int} (leaf:Int) {d:List Int} (hd:D32 d):PO leaf d (jA x leaf d)=OD x leaf:=by
 unfold PO OD;congr 1;refine List.map_congr_left fun i hi=>?_;have hi2:i<68:=List.mem_range.1 hi;have h:=WI hd hi2;unfold SR xC;rw[ZA x leaf d hi2];exact CG leaf i 0 _ 3 zo h.1 h.2 zo
end Go.Proofs.YtaeobegaodhpcaaGreatDoor
