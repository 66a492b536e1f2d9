/-
  Envelopes: signatures with their keys as values and in memory, lists of them, an append of one (condition: roots have 16 bytes).
-/
import Derived.Test.YtaeobegaodhpcaaGreatDoorZip
import Derived.Test.YtaeobegaodhpcaaGreatDoorQ13
set_option maxRecDepth 100000
set_option maxHeartbeats 8000000
namespace Go.Proofs.YtaeobegaodhpcaaGreatDoor
open Go.RowKit Go.Proofs.YtaeobegaodhpcaaGreatDoor.One
structure Sg where
 h:Int
 r:List Int
 a:Int
 sp:Option Addr
 n:Nat
 c:Nat
 l:List (List Int)
 sq:Option Addr
 m:Nat
 d:Nat
 q:List (List Int)
def sgP (x:Sg):List Value:=pkL x.h x.r
def sgS (x:Sg):List Value:=siL x.a (.slice x.sp x.n x.c) (.slice x.sq x.m x.d)
def aX (x:Sg):List Value:=sgP x++sgS x
def OkG (x:Sg):Prop:=H16 x.r
structure Pg where
 h:Int
 r:List Int
 a:Int
 l:List (List Int)
 q:List (List Int)
def pg (x:Sg):Pg:=⟨x.h,x.r,x.a,x.l,x.q⟩
theorem jC {x:Sg} (h:OkG x):(sgP x).length=17:=by
 have h1:x.r.length=16:=h.1;simp[sgP,pkL,h1]
theorem aJ {x:Sg} (h:OkG x):(aX x).length=20:=by rw[aX,List.length_append,jC h];rfl
theorem mR (x:Sg):∀ u ∈ aX x,u.oneCell'=true:=fun u hu=>by
 rcases List.mem_append.1 hu with hu | hu
 ·rcases List.mem_cons.1 hu with rfl | hu
  ·rfl
  ·obtain⟨i,_,rfl⟩:=List.mem_map.1 hu;rfl
 ·simp only[sgS,siL,List.mem_cons,List.not_mem_nil,or_false] at hu;rcases hu with rfl | rfl | rfl <;> rfl
theorem bG (x:Sg):(aX x).toArray.all (·.oneCell')=true:=Array.all_eq_true_iff_forall_mem.2 (by simpa using mR x)
theorem LZ:(Tryz.prog.info? 50).map (·.size)=some 20:=by kernel_rfl
def zG:List Value:=[.int .i64 0]++List.replicate 16 (Value.int .u8 0)++[.int .i64 0,.slice none 0 0,.slice none 0 0]
theorem LY:(Tryz.prog.info? 50).map (fun i=>(i.zero,i.size,i.bytes))=some (some (.agg zG.toArray),20,80):=by kernel_rfl
theorem gG {x:Sg} (h:OkG x):(Tryz.prog.info? 50).map (·.size)=some (aX x).length:=by rw[aJ h];exact LZ
theorem aS {x:Sg} (h:OkG x):(Tryz.prog.info? 50).map (·.size)=some (aX x).toArray.size:=gG h
theorem iG {x:Sg} (h:OkG x):(Tryz.prog.info? 44).map (·.size)=some (sgP x).length:=by rw[jC h];exact LV
theorem oS (x:Sg):(Tryz.prog.info? 48).map (·.size)=some (sgS x).length:=LU
theorem pL {w:World} {g o:Nat} {x:Sg} (h:w.rangeAt g o (aX x)):w.rangeAt g o (sgP x):=fun j v hv=>h j v (by
 have hj:=(List.getElem?_eq_some_iff.1 hv).1;unfold aX;rw[List.getElem?_append_left hj];exact hv)
theorem yD {w:World} {g o:Nat} {x:Sg} (h:w.rangeAt g o (aX x)) (hx:OkG x):w.rangeAt g (o+17) (sgS x):=fun j v hv=>by
 have h1:=h (17+j) v (by unfold aX;rw[List.getElem?_append_right (by rw[jC hx];omega),jC hx,show 17+j-17=j by omega];exact hv);rw[show o+17+j=o+(17+j) by omega];exact h1
def GB (w:World) (b:Nat) (x:Sg):Prop:=w.heap[b]? = some (.cells (aX x).toArray 50 (0,0))
theorem GB.all {w:World} {b:Nat} {x:Sg} (h:GB w b x):w.rangeAt b 0 (aX x):=mZ (pre:=[]) (post:=[]) h (by simp) rfl
theorem GB.p {w:World} {b:Nat} {x:Sg} (h:GB w b x):w.rangeAt b 0 (sgP x):=pL h.all
theorem GB.s {w:World} {b:Nat} {x:Sg} (h:GB w b x) (hx:OkG x):w.rangeAt b 17 (sgS x):=by have:=yD h.all hx;rwa [Nat.zero_add] at this
theorem GB.new (w:World) (x:Sg):GB (w.alloc (.cells (aX x).toArray 50)) w.heap.size x:=heap_alloc_new w _
theorem GB.below {w w':World} {B b:Nat} {x:Sg} (h:GB w b x) (hb:Below B w w') (hlt:b<B):GB w' b x:=(hb.block b hlt).trans h
structure SgD (w:World) (B:Nat) (x:Sg):Prop where
 c:HvsIn w B x.sp x.n x.c x.l
 p:HvsIn w B x.sq x.m x.d x.q
 cn:x.sp=none→x.c=0
 pn:x.sq=none→x.d=0
theorem SgD.below {w w':World} {B B':Nat} {x:Sg} (h:SgD w B x) (hb:Below B' w w') (hB:B≤B'):SgD w' B' x:=⟨h.c.below hb hB,h.p.below hb hB,h.cn,h.pn⟩
theorem SgD.up {w w':World} {B:Nat} {x:Sg} (h:SgD w B x) (hb:Below B w w') (hs:B≤w.heap.size):SgD w' w'.heap.size x:=(h.below hb zl).below (Below.refl _ _) (Nat.le_trans hs hb.size)
structure SgsIn (w:World) (B:Nat) (sp:Option Addr) (n cap:Nat) (l:List Sg):Prop where
 len:l.length=n
 ok:∀ x ∈ l,OkG x
 dat:∀ x ∈ l,SgD w B x
 cells:0<n→∃ b off,sp=some ⟨b,off,none⟩∧b<B∧n≤cap∧∀ i x,l[i]? = some x→w.rangeAt b (off+i*20) (aX x)
theorem SgsIn.below {w w':World} {B B':Nat} {sp:Option Addr} {n cap:Nat} {l:List Sg} (h:SgsIn w B sp n cap l) (hb:Below B' w w') (hB:B≤B'):SgsIn w' B' sp n cap l :=
 ⟨h.len,h.ok,fun x hx=>(h.dat x hx).below hb hB,fun hn=>by
  obtain⟨b,off,e,hlt,hc,hr⟩:=h.cells hn;exact⟨b,off,e,by omega,hc,fun i x hi=>aB (hr i x hi) hb zo⟩⟩
theorem SgsIn.up {w w':World} {B:Nat} {sp:Option Addr} {n cap:Nat} {l:List Sg} (h:SgsIn w B sp n cap l) (hb:Below B w w') (hs:B≤w.heap.size):SgsIn w' w'.heap.size sp n cap l :=
 (h.below hb zl).below (Below.refl w'.heap.size w') (Nat.le_trans hs hb.size)
theorem SgsIn.nil (w:World) (B:Nat):SgsIn w B none 0 0 []:=⟨rfl,fun x hx=>(by cases hx),fun x hx=>(by cases hx),fun h=>by omega⟩
def aR (l:List Sg):List Value:=l.flatMap aX
theorem FX (l:List Sg) (x:Sg):aR (l++[x])=aR l++aX x:=by simp[aR]
theorem eL (l m:List Sg):aR (l++m)=aR l++aR m:=by simp[aR]
theorem rN {l:List Sg}:∀ u ∈ aR l,u.oneCell'=true:=fun u hu=>by
 obtain⟨x,_,hu⟩:=List.mem_flatMap.1 hu;exact mR x u hu
def OwnG (w:World) (base:Nat) (v:Value) (l:List Sg):Prop:=w.ownsRow base 50 20 v l.length (aR l)∧∀ x ∈ l,OkG x
theorem OwnG.sgs {w:World} {base:Nat} {sp:Option Addr} {n cap:Nat} {l:List Sg} (h:OwnG w base (.slice sp n cap) l) (hn:l.length=n) (hd:∀ x ∈ l,SgD w w.heap.size x):SgsIn w w.heap.size sp n cap l:=by
 refine⟨hn,h.2,hd,fun h0=>?_⟩;have h1:=h.1;obtain⟨_,⟨e,e0⟩ | ⟨g,cap',cur,e,_⟩⟩:=h.1
 ·omega
 ·injection e with e1 e2 e3
  subst e1;obtain⟨hg,hc,hr⟩:=oO (f:=aX) h1 (fun x hx=>aJ (h.2 x hx)) hn;exact⟨g,0,rfl,hg,hc,hr⟩
theorem OwnG.below {w w':World} {base:Nat} {v:Value} {l:List Sg} (h:OwnG w base v l) (hb:Below w.heap.size w w'):OwnG w' base v l:=⟨eB h.1 hb,h.2⟩
theorem OwnG.nil (w:World) (base:Nat):OwnG w base (.slice none 0 0) []:=⟨World.ownsRow_nil w base _ _,by simp⟩
theorem OwnG.base {w:World} {b b':Nat} {v:Value} {l:List Sg} (h:OwnG w b v l) (hb:b'≤b):OwnG w b' v l:=by
 refine⟨?_,h.2⟩;obtain⟨hl,h1 | ⟨g,cap,cur,e,hbg,rest⟩⟩:=h.1
 ·exact⟨hl,.inl h1⟩
 ·exact⟨hl,.inr ⟨g,cap,cur,e,Nat.le_trans hb hbg,rest⟩⟩
theorem OwnG.nilcap {w:World} {base n cap:Nat} {sp:Option Addr} {l:List Sg} (h:OwnG w base (.slice sp n cap) l):sp=none→cap=0:=by
 rintro rfl;obtain⟨_,⟨e,_⟩ | ⟨g,c,u,e,_⟩⟩:=h.1
 ·cases e;rfl
 ·cases e
theorem cZ {w:World} {ops:Array Oper} {rest:List Oper} {o:Oper} {a:Act} {Q:Exit→Act→World→Prop} (hgd:o.guard=none) (s x:Operand)
 (ho:o.op=.call { callee:=.builtin .append,args:=#[s,x],argTypes:=#[23,23] }) (base:Nat) (v:Value) (l:List Sg) (n:Nat) (hn:n=l.length) (hs:a.eval s=v) (hown:OwnG w base v l)
 (g:Nat) (y:Sg) (hx:a.eval x=.slice (some ⟨g,0,none⟩) 1 1) (hy:GB w g y) (hok:OkG y) (hlen:n≤1000000) (hbase:base≤w.heap.size)
 (h:∀ sp cap w',Hid (OwnG w' base (.slice sp (n+1) cap) (l++[y]))→Hid (Below base w w')→Hid (w.grownBy w' v.ownBlock)→wpList Tryz.prog ops Q rest (a.put o.dst (.slice sp (n+1) cap)) w'):wpList Tryz.prog ops Q (o :: rest) a w:=by
 subst hn;obtain⟨i0,hi0,hz0,hz1,hz2⟩:=bF LY;refine wpList_append_own w hgd s x _ ho base _ i0 _ 20 80 Tryz.underlying23 hi0 hz0 hz1 hz2 rfl (by decide) v l.length _ hs hown.1 ⟨g,0,none⟩ 1 1 (aX y) hx (by rw[aJ hok]) ?_ (mR y) (by unfold maxLen;omega) zo hbase ?_
 ·intro j u hj;rw[Addr.add_mid];exact hy.all j u hj
 ·intro v' w' h1 h2 _;obtain⟨sp,cap,rfl⟩:=aM h1;refine h sp cap w' ⟨by rw[FX,List.length_append];exact h1,fun z hz=>?_⟩ ((Below.refl base w).grown h2 hbase (bO hown.1)) h2;rcases List.mem_append.1 hz with hz | hz
  ·exact hown.2 z hz
  ·rw[List.mem_singleton.1 hz];exact hok
theorem YT:(Tryz.prog.info? 50).map (·.zero)=some (some (.agg zG.toArray)):=by kernel_rfl
theorem rH (w:World) (x:Sg) (hx:OkG x):(Instr.buildSlice 23 1 #[(0,.agg (aX x).toArray)]).run Tryz.prog w=.ok (.slice (some ⟨w.heap.size,0,none⟩) 1 1) (w.alloc (.cells (aX x).toArray 50)):=by
 have h:=aJ hx;have hz:=YT;have hi:=LZ
 cases hie:Tryz.prog.info? 50 with
 | none=>rw[hie] at hi;cases hi
 | some ie =>
   rw[hie] at hi hz;exact rG w _ _ _ ie _ Tryz.underlying23 hie (by injection hz) (by rw[h];injection hi) zo zo
theorem ER (x:Sg) (hx:OkG x) (w:World) :
 (Instr.build 50 #[(0,.agg (pkA x.h x.r)),(1,.agg (siA x.a (.slice x.sp x.n x.c) (.slice x.sq x.m x.d)))]).run Tryz.prog w=.ok (.agg (aX x).toArray) w:=by
 refine run_build w _ _ _ ?_;rw[pC YT Tryz.underlying50 (places:=[(0,17),(17,3)]) (by kernel_rfl)];show Instr.fill _ ([]++(([Value.int .i64 0]++List.replicate 16 (Value.int .u8 0))++[Value.int .i64 0,Value.slice none 0 0,Value.slice none 0 0])).toArray [(0,.agg (sgP x).toArray),(1,.agg (sgS x).toArray)]=_;rw[jP (sgP x) [] ([Value.int .i64 0]++List.replicate 16 (Value.int .u8 0)) [Value.int .i64 0,Value.slice none 0 0,Value.slice none 0 0] rfl rfl (by rw[jC hx];rfl) rfl rfl,List.nil_append];rw[show sgP x++[Value.int .i64 0,Value.slice none 0 0,Value.slice none 0 0]=sgP x++([Value.int .i64 0,Value.slice none 0 0,Value.slice none 0 0]++[]) by simp];rw[jP (sgS x) (sgP x) [Value.int .i64 0,Value.slice none 0 0,Value.slice none 0 0] [] (off:=17) (sz:=3) rfl rfl rfl (by rw[jC hx]) rfl];simp[Instr.fill,aX]
theorem bR {x:Sg} (h:OkG x):zG.toArray.size=(aX x).toArray.size:=by
 rw[List.size_toArray,List.size_toArray,aJ h];rfl
def enL (t:ByteArray) (p s:Value):List Value:=[.string t,p,s]
def enA (t:ByteArray) (p s:Value):Array Value:=(enL t p s).toArray
theorem SW:(Tryz.prog.info? 25).map (·.size)=some 3:=by kernel_rfl
theorem aE (t:ByteArray) (p s:Value):(Tryz.prog.info? 25).map (·.size)=some (enA t p s).size:=SW
theorem bI (t:ByteArray) (s1:Option Addr) (n1 c1:Nat) (s2:Option Addr) (n2 c2:Nat):(enA t (.slice s1 n1 c1) (.slice s2 n2 c2)).all (·.oneCell')=true:=by
 simp[enA,enL,Value.oneCell']
def zEn:Array Value:=enA ⟨#[]⟩ aH aH
theorem fW (w:World):(Instr.build 25 #[]).run Tryz.prog w=.ok (.agg zEn) w:=by kernel_rfl
theorem IM {w:World} {b:Nat} {t:ByteArray} {p s:Value} {fr:Nat × Nat} (hb:w.heap[b]? = some (.cells (enA t p s) 25 fr)):w.cell? ⟨b,0,none⟩=some (.string t):=aG (L:=enL t p s) hb rfl
theorem qU {w:World} {b:Nat} {t:ByteArray} {p s:Value} {fr:Nat × Nat} (hb:w.heap[b]? = some (.cells (enA t p s) 25 fr)):w.cell? ⟨b,1,none⟩=some p:=aG (L:=enL t p s) hb rfl
theorem iW {w:World} {b:Nat} {t:ByteArray} {p s:Value} {fr:Nat × Nat} (hb:w.heap[b]? = some (.cells (enA t p s) 25 fr)):w.cell? ⟨b,2,none⟩=some s:=aG (L:=enL t p s) hb rfl
end Go.Proofs.YtaeobegaodhpcaaGreatDoor
namespace Go.Proofs.YtaeobegaodhpcaaGreatDoor
open Go.RowKit
structure DigsIn (w:World) (B:Nat) (da:Option Addr) (n cap:Nat) (l:List (List Int)):Prop where
 len:l.length=n
 digs:Digs l
 cells:0<n→∃ b off,da=some ⟨b,off,none⟩∧b<B∧n≤cap∧∀ i,i<n→w.rangeAt b (off+i*32) ((l.getD i []).map (Value.int .u8))
theorem BH {w w':World} {b o B:Nat} {cs:List Value} (h:w.rangeAt b o cs) (hb:Below B w w') (hlt:b<B):w'.rangeAt b o cs:=fun j v hv=>(hb.cell (p:=⟨b,o+j,none⟩) hlt).trans (h j v hv)
theorem DigsIn.below {w w':World} {B B':Nat} {da:Option Addr} {n cap:Nat} {l:List (List Int)} (h:DigsIn w B da n cap l) (hb:Below B' w w') (hB:B≤B'):DigsIn w' B' da n cap l :=
 ⟨h.len,h.digs,fun hn=>by
  obtain⟨b,off,e,hlt,hc,hr⟩:=h.cells hn;exact⟨b,off,e,by omega,hc,fun i hi=>BH (hr i hi) hb zo⟩⟩
def dv (x:List Int):Array Value:=(x.map (Value.int .u8)).toArray
end Go.Proofs.YtaeobegaodhpcaaGreatDoor
namespace Go.Proofs.YtaeobegaodhpcaaGreatDoor
open Go.RowKit Go.Proofs.YtaeobegaodhpcaaGreatDoor.One
theorem qZ {h:Nat} (hh:h≤6):wrap64 ((2:Int) ^ h)=((2 ^ h:Nat):Int):=by
 have:h=0∨h=1∨h=2∨h=3∨h=4∨h=5∨h=6:=by omega
 rcases this with rfl | rfl | rfl | rfl | rfl | rfl | rfl <;> (unfold wrap64;simp)
theorem KP {x:List Int} (h:Nat):(mG x h 0)=(List.range (2 ^ h)).map (iR x 0):=by unfold mG;rw[Nat.sub_zero]
theorem rO (x:List Int) (h:Nat) (w:World) (hs:H16 x) (hh:h≤6) :
 Calls Tryz.prog 70 #[.agg (hvA x),.int .i64 (h:Int)] w fun e w'=>∃ sp cap,e=.returned (.slice sp (2 ^ h:Nat) cap)∧OwnHv w' w.heap.size (.slice sp (2 ^ h:Nat) cap) (mG x h 0)∧Below w.heap.size w w':=by
 have HS:=zh hs;clear hs;have HR:=zh (RowB.new w 42 x)
 go_enter Tryz.func70,Tryz.ntmps70
 go_wp2_with fail;generalize hw0:World.alloc w _=w0;have HR0:Hid (RowB w 42 x w0):=by rw[←hw0];exact HR.out
 clear hw0 HR;have hs0:w.heap.size+1≤w0.heap.size:=Nat.le_of_eq HR0.out.s.symm;have h64:2 ^ h≤64:=by have:2 ^ h≤2 ^ 6:=Nat.pow_le_pow_right zo hh;omega
 obtain⟨N,hN⟩:∃ N:Nat,2 ^ h=N:=⟨_,rfl⟩;have HN:=zh hN;have HWP:=zh (qZ hh);rw[hN] at h64 HWP;clear hN
 go_loopw [5,6] (fun v i wr=>∃ k:Nat,k≤N∧i=.int .i64 (k:Int)∧Hid (OwnHv wr (w.heap.size+1) v ((List.range k).map (iR x 0)))∧Hid (Below (w.heap.size+1) w0 wr)) (fun _ i _=>N-(intOf i).toNat)
 case atStart=>exact⟨0,by omega,rfl,OwnHv.nil _ _,Below.refl _ _⟩
 case round =>
  obtain⟨k,hk,rfl,HOW,HBR⟩:=hrel;have hszr:w.heap.size+1≤wr.heap.size:=by have:=HBR.out.size;omega
  by_cases hlt:k<N
  ·have HXR:Hid (Ah wr w.heap.size (hvA x) 42):=(HBR.out.block _ zo).trans HR0.out.r;have hd1:decide ((k:Int)<wrap64 (2 ^ h))=true:=by rw[HWP.out];simp;omega
   go_wp2_with (refine wpList_load_row rfl 42 _ rfl w.heap.size rfl 42 _ (0,0) _ HXR.out Tryz.underlying42 rfl (aI HS.out) ?_)
   refine (BA x k wr HS.out).mono ?_;rintro e w6 ⟨rfl,hb6⟩;have HB6:=zh hb6;clear hb6;have hs6:w.heap.size+1≤w6.heap.size:=by have:=HB6.out.size;omega
   have HO6:=zh (HOW.out.below HB6.out);have HSN:=zh (eJ (iR x 0) k);have HLK:Hid (k=((List.range k).map (iR x 0)).length):=by show _=_;simp
   have HEE:Hid (OD x (k:Int)=iR x 0 k):=rfl;rw[HEE.out];have HY:=zh (fR x 0 k);clear HEE;generalize iR x 0 k=y at *
   go_wp2_with (first
    | (refine aT rfl 46 1 [(0,.tmp 17)] rfl [(0,.agg (hvA y))] rfl _ _ (gD _ y HY.out) ?_;generalize hw7:World.alloc w6 _=w7;have hr7:w7.rangeAt w6.heap.size 0 (y.map (Value.int .u8)):=(by rw[←hw7];intro j v hv;rw[Nat.zero_add];exact aG (heap_alloc_new w6 _) hv);have hb7:Below w6.heap.size w6 w7:=(by rw[←hw7];exact aA _ _);have HR7:=zh hr7;have HB7:=zh hb7;have HO7:=zh (HO6.out.below hb7);have hs7:=hb7.size;have hs7b:w.heap.size+1≤w7.heap.size:=(by omega);clear hw7 hr7 hb7)
    | (at_builtin;refine cG rfl (.tmp 14) (.tmp 18) rfl (w.heap.size+1) _ _ k HLK.out rfl HO7.out w6.heap.size y rfl HR7.out HY.out zo hs7b ?_;intro sp8 cap8 w8 HO8 HB8 HG8))
   go_roundw
   case rel=>exact⟨k+1,by omega,by go_num,by rw[HSN.out];exact HO8,HBR.out.trans ((HB6.out.mono zo).trans ((HB7.out.mono zo).trans HB8.out))⟩
   case measure=>simp[intOf];omega
  ·obtain rfl:k=N:=by omega
   have hd1:decide ((k:Int)<wrap64 (2 ^ h))=false:=by rw[HWP.out];simp
   obtain⟨sp',cap',rfl⟩:=aM HOW.out.1;have HLN:Hid (((List.range k).map (iR x 0)).length=k):=by show _=_;simp
   have how:=HOW.out;rw[HLN.out] at how ⊢;have aBc:=zh how;clear how HOW;go_wp2_with fail;go_ret;refine⟨sp',cap',?_,?_,HR0.out.b.trans (HBR.out.mono zo)⟩
   ·rw[HN.out];rfl
   ·rw[KP,HN.out];exact aBc.out.base (Nat.le_succ _)
def upL (k:Nat) (l:List (List Int)) (m:Nat):List (List Int):=(List.range m).map fun i:Nat=>eX (k:Int) (i:Int) (l.getD (2*i) []) (l.getD (2*i+1) [])
theorem JE (k:Nat) (l:List (List Int)) (m:Nat):(upL k l m).length=m:=by simp[upL]
theorem OR (k:Nat) (l:List (List Int)) (m:Nat):upL k l (m+1)=upL k l m++[eX (k:Int) (m:Int) (l.getD (2*m) []) (l.getD (2*m+1) [])]:=eJ _ _
theorem KC (k n m:Nat) (sp:Option Addr) (cap:Nat) (l:List (List Int)) (w:World) (hl:HvsIn w w.heap.size sp n cap l) (hnm:n=2*m) (hm:0<m) (hn:n≤100000) :
 Calls Tryz.prog 71 #[.int .i64 (k:Int),.slice sp n cap] w fun e w'=>∃ sp' cap',e=.returned (.slice sp' m cap')∧OwnHv w' w.heap.size (.slice sp' m cap') (upL k l m)∧Below w.heap.size w w':=by
 obtain⟨sb,so,hpl⟩:=hl.place;obtain rfl:=hpl zo;obtain⟨sb',so',he,hsb,hcap,_⟩:=hl.cells zo;injection he with he;injection he with he1 he2;subst he1 he2
 have HL:=zh hl;have HNM:=zh hnm;clear hl hpl hnm
 go_enter Tryz.func71,Tryz.ntmps71
 go_wp2_with fail
 go_loopw [5,6] (fun v i wr=>∃ j:Nat,j≤m∧i=.int .i64 ((2*j:Nat):Int)∧Hid (OwnHv wr w.heap.size v (upL k l j))∧Hid (Below w.heap.size w wr)) (fun _ i _=>n-(intOf i).toNat)
 case atStart=>exact⟨0,by omega,rfl,OwnHv.nil _ _,Below.refl _ _⟩
 case round =>
  obtain⟨j,hj,rfl,HOW,HBR⟩:=hrel;have hszr:=HBR.out.size;by_cases hlt:j<m
  ·have hn2:n=2*m:=HNM.out;have eR:=zh (HL.out.at16 (i:=2*j) zo);have cQ:=zh (HL.out.at16 (i:=2*j+1) zo);have HXR:Hid (wr.rangeAt sb (so+2*j*16) ((l.getD (2*j) []).map (Value.int .u8))):=by
    obtain⟨b,o,e,h,_,hr⟩:=HL.out.cells zo;injection e with e;injection e with e1 e2;subst e1 e2;exact aB (hr (2*j) zo) HBR.out hsb
   have HYR:Hid (wr.rangeAt sb (so+(2*j+1)*16) ((l.getD (2*j+1) []).map (Value.int .u8))):=by
    obtain⟨b,o,e,h,_,hr⟩:=HL.out.cells zo;injection e with e;injection e with e1 e2;subst e1 e2;exact aB (hr (2*j+1) zo) HBR.out hsb
   have HSN:=zh (OR k l j);have HLK:Hid (j=(upL k l j).length):=(JE k l j).symm;have hd1:decide (2*(j:Int)+1<(n:Int))=true:=by simp;omega
   have q1:(0:Int)≤2*(j:Int):=by omega
   have q2:2*(j:Int)<(n:Int):=by omega
   have q3:(0:Int)≤2*(j:Int)+1:=by omega
   have q4:2*(j:Int)+1<(n:Int):=by omega
   have q5:(n:Int)≤(cap:Int):=by omega
   have m2:IntKind.i64.wrap (2*(j:Int)+1)=2*(j:Int)+1:=IntWalk.i64_in _ zo;have m3:IntKind.i64.wrap (j:Int)=(j:Int):=IntWalk.i64_in _ zo;have t1:(2*(j:Int)).toNat=2*j:=by omega
   have t2:(2*(j:Int)+1).toNat=2*j+1:=by omega
   have d1:Int.tdiv (2*(j:Int)) 2=(j:Int):=by rw[Int.tdiv_eq_ediv_of_nonneg zo];omega
   have d2:(2*(j:Int)) / 2=(j:Int):=by omega
   clear hn2;generalize l.getD (2*j) []=x at *;generalize l.getD (2*j+1) []=y at *;have HZ16:=zh (bK (k:Int) (j:Int) x y);have HCJ:=zh (fun w'=>(show Calls Tryz.prog 112 #[.int .i64 (k:Int),.int .i64 (j:Int),.agg (x.map (Value.int .u8)).toArray,.agg (y.map (Value.int .u8)).toArray] w' fun e w''=>e=.returned (.agg (hvA (eX (k:Int) (j:Int) x y)))∧Below w'.heap.size w' w'' from KJ k j x y w' eR.out cQ.out));have HIX:=zh (bS eR.out);have HIY:=zh (bS cQ.out);generalize eX (k:Int) (j:Int) x y=z at *;go_wp2_with fail;refine wp_region_held_drew (S:=fun w'=>w'.rangeAt sb (so+2*j*16) (x.map (Value.int .u8))∧w'.rangeAt sb (so+(2*j+1)*16) (y.map (Value.int .u8))) (by kernel_rfl) ⟨HXR.out,HYR.out⟩ (fun hHeld=>?_);refine zv 0 rfl ?_;refine zv 1 rfl ?_;refine zv 2 rfl ?_;refine zv 3 rfl ?_;refine zv 4 rfl ?_;refine zv 5 rfl ?_;refine zv 6 rfl ?_;refine' zk 7 rfl (v:=_) (yieldsIf_load_mid (by rfl) _ _ rfl _ _ rfl _ _ ?hS7n8 Tryz.underlying42 rfl HIX.out) ?rest7n8
   case hS7n8 =>
    intro w' hSw;exact hSw.1
   try simp only[Act.put,zu]
   refine zv 8 rfl ?_;refine zv 9 rfl ?_;refine zv 10 rfl ?_;refine zv 11 rfl ?_;refine' zk 12 rfl (v:=_) (yieldsIf_load_mid (by rfl) _ _ rfl _ _ rfl _ _ ?hS12n13 Tryz.underlying42 rfl HIY.out) ?rest12n13
   case hS12n13 =>
    intro w' hSw;exact hSw.2
   try simp only[Act.put,zu]
   refine zr 13 rfl (fun K hK=>?_);go_simp
   with_reducible refine (HCJ.out _).mono ?_
   rintro e w6 ⟨rfl,hb⟩;have HB6:Hid (Bw wr w6):=(Below.refl _ _).drew.trans hb;clear hb;have HX6:Hid (w6.rangeAt sb (so+2*j*16) (x.map (Value.int .u8))∧w6.rangeAt sb (so+(2*j+1)*16) (y.map (Value.int .u8))):=⟨aB HXR.out HB6.out zo,aB HYR.out HB6.out zo⟩;have hs6:w.heap.size≤w6.heap.size:=by have:=HB6.out.size;omega
   have HO6:=zh (HOW.out.below HB6.out);go_wp2_with fail;refine hK.out _ _ HX6.out fun _=>?_;clear hK K
   try simp only[Act.put,zu]
   refine zr 14 rfl (fun K hK=>?_);rw[if_pos (by rfl)];refine gP 46 1 [(0,.tmp 27)] rfl [(0,.agg (hvA z))] rfl _ _ (gD _ z HZ16.out) ?_;generalize hw7:World.alloc w6 _=w7;have hr7:w7.rangeAt w6.heap.size 0 (z.map (Value.int .u8)):=by rw[←hw7];intro j v hv;rw[Nat.zero_add];exact aG (heap_alloc_new w6 _) hv
   have hb7:Below w6.heap.size w6 w7:=by rw[←hw7];exact aA _ _
   have HR7:=zh hr7;have HB7:=zh hb7;have HO7:=zh (HO6.out.below hb7);have hs7:=hb7.size;have hs7b:w.heap.size≤w7.heap.size:=by omega
   have HX7:Hid (w7.rangeAt sb (so+2*j*16) (x.map (Value.int .u8))∧w7.rangeAt sb (so+(2*j+1)*16) (y.map (Value.int .u8))):=⟨aB HX6.out.1 HB7.out zo,aB HX6.out.2 HB7.out zo⟩;clear hw7 hr7 hb7 hs7;refine hK.out _ _ HX7.out fun _=>?_;clear hK K
   try simp only[Act.put,zu]
   refine zr 15 rfl (fun K hK=>?_);rw[if_pos (by rfl)];refine kD (.tmp 14) (.tmp 28) rfl w.heap.size _ _ j HLK.out rfl HO7.out w6.heap.size z rfl HR7.out HZ16.out zo hs7b ?_;intro sp8 cap8 w8 HO8 HB8 HG8;have HX8:Hid (w8.rangeAt sb (so+2*j*16) (x.map (Value.int .u8))∧w8.rangeAt sb (so+(2*j+1)*16) (y.map (Value.int .u8))):=⟨aB HX7.out.1 HB8.out zo,aB HX7.out.2 HB8.out zo⟩;refine hK.out _ _ HX8.out fun _=>?_;clear hK K
   try simp only[Act.put,zu]
   refine zv 16 rfl ?_;refine zd ?_ _;go_wp2_with fail;go_roundw
   case rel=>exact⟨j+1,by omega,by go_num,by rw[HSN.out];exact HO8,HBR.out.trans ((HB6.out.mono zo).trans ((HB7.out.mono zo).trans HB8.out))⟩
   case measure=>simp[intOf];omega
  ·obtain rfl:j=m:=by omega
   have hjb:(j:Int)≤100000:=by have:=HNM.out;omega
   have hd1:decide (2*(j:Int)+1<(n:Int))=false:=by have:=HNM.out;simp;omega
   obtain⟨sp',cap',rfl⟩:=aM HOW.out.1;have how:=HOW.out;rw[JE] at how ⊢;have aBc:=zh how;clear how HOW;go_wp2_with fail;go_ret;exact⟨sp',cap',rfl,aBc.out,HBR.out⟩
theorem SH (x:List Int) {h k:Nat} (hk:k<h):upL k (mG x h k) (2 ^ (h-(k+1)))=mG x h (k+1):=rS x hk
theorem PM (x:List Int) (h:Nat) (w:World) (hs:H16 x) (hh:h≤6) :
 Calls Tryz.prog 35 #[.agg (hvA x),.int .i64 (h:Int)] w fun e w'=>e=.returned (.tuple #[.agg (pkA h (iR x h 0)),.int .i64 0])∧Below w.heap.size w w':=by
 have HS:=zh hs;clear hs;have HT:=zh (PkBox.new w x);have q1:decide ((h:Int)<0)=false:=by simp
 have q2:decide ((h:Int)>6)=false:=by simp;omega
 go_enter Tryz.func35,Tryz.ntmps35
 go_wp2_with (generalize hw0:World.alloc (World.alloc w _) _=w0;have HT0:Hid (PkBox w x w0):=(by rw[←hw0];exact HT.out);clear hw0 HT;refine wpList_load_row rfl 42 _ rfl w.heap.size rfl 42 _ (0,0) _ HT0.out.x Tryz.underlying42 rfl (aI HS.out) ?_)
 clear q1 q2;have hs0:w.heap.size+2≤w0.heap.size:=Nat.le_of_eq HT0.out.s.symm;refine (rO x h w0 HS.out hh).mono ?_;rintro e w1 ⟨sp,cap,rfl,ho,hb1⟩;have HB1:Hid (Below (w.heap.size+2) w0 w1):=hb1.mono hs0;have hs1:=hb1.size;have hl0:(mG x h 0).length=2 ^ h:=by rw[eC,Nat.sub_zero]
 have HV1:=zh (ho.hvs hl0);clear ho hb1 hl0;go_wp2_with fail
 go_loopw [6,7] (fun v i wr=>∃ (k:Nat) (sp:Option Addr) (n cap:Nat),k≤h∧i=.int .i64 (k:Int)∧v=.slice sp n cap∧Hid (HvsIn wr wr.heap.size sp n cap (mG x h k))∧Hid (Below (w.heap.size+2) w0 wr)) (fun _ i _=>h-(intOf i).toNat)
 case atStart=>exact⟨0,sp,2 ^ h,cap,by omega,rfl,rfl,HV1.out,HB1.out⟩
 case round =>
  clear HV1 HB1;obtain⟨k,sp,n,cap,hkh,rfl,rfl,HV,HBR⟩:=hrel;have hszr:w.heap.size+2≤wr.heap.size:=by have:=HBR.out.size;omega
  by_cases hlt:k<h
  ·have hn2:2 ^ (h-k)=2*2 ^ (h-(k+1)):=by rw[show h-k=h-(k+1)+1 by omega,Nat.pow_succ];omega
   have HN:Hid (n=2*2 ^ (h-(k+1))):=by show _=_;rw[←hn2,←eC x h k];exact HV.out.len.symm
   have hmp:0<2 ^ (h-(k+1)):=Nat.pow_pos zo;have HUP:=zh (SH x hlt);have HLN:=zh (eC x h (k+1));have h64:2 ^ (h-(k+1))≤64:=rQ hh _;clear hn2;generalize 2 ^ (h-(k+1))=m at *;have hd1:decide ((k:Int)<(h:Int))=true:=by simp;omega
   go_wp2_with fail;refine (KC k n m sp cap (mG x h k) wr HV.out HN.out hmp (by have:=HN.out;omega)).mono ?_;rintro e w5 ⟨sp5,cap5,rfl,ho5,hb5⟩;rw[HUP.out] at ho5;have HV5:=zh (ho5.hvs HLN.out);have HB5:Hid (Below (w.heap.size+2) w0 w5):=HBR.out.trans (hb5.mono hszr);clear ho5 hb5;go_wp2_with fail;go_roundw
   case rel=>exact⟨k+1,sp5,m,cap5,by omega,by go_num,rfl,HV5.out,HB5.out⟩
   case measure=>simp[intOf];omega
  ·obtain rfl:k=h:=by omega
   have hd1:decide ((k:Int)<(k:Int))=false:=by simp
   have hhv:=HV.out;rw[LH] at hhv;have hn1:n=1:=hhv.len.symm;subst hn1;obtain⟨sb,so,rfl,hsb,hc1,hr⟩:=hhv.cells zo;have HR:Hid (wr.rangeAt sb so ((iR x k 0).map (Value.int .u8))):=by have:=hr 0 zo;rw[Nat.zero_mul,Nat.add_zero] at this;exact this
   have HNK:=zh (fR x k 0);have HIR:=zh (bS HNK.out);have HZ1:Hid (Ah wr (w.heap.size+1) (pkA 0 bQ) 44):=(HBR.out.block _ zo).trans HT0.out.z;have HBW:Hid (Bw w wr):=HT0.out.b.trans (HBR.out.mono zo);clear hr hhv
   go_wp2_with (first
    | (refine wpList_load_mid rfl 42 _ rfl sb so rfl _ _ HR.out Tryz.underlying42 rfl HIR.out ?_)
    | (refine bB rfl 44 [(0,.tmp 26),(1,.tmp 29)] rfl [(0,.int .i64 (k:Int)),(1,.agg ((iR x k 0).map (Value.int .u8)).toArray)] rfl _ (wH k (iR x k 0) HNK.out _) ?_)
    | (refine wpList_store_row rfl 44 _ _ rfl (w.heap.size+1) _ rfl rfl 44 _ HZ1.out (dS HNK.out) (by rw[jF HNK.out,jF aN]) (DJ _ _) ?_))
   exact bodyPost_ret (aC (P:=Tryz.prog) rfl _ _ (w.heap.size+1) 44 _ (0,0) _ rfl (setRow_heap _ _ _ _ _ _ HZ1.out) Tryz.underlying44 rfl (dS HNK.out)) rfl ⟨rfl,below_setRow HBW.out zo _⟩
def idB (h:Int) (r:List Int):List Int:=[7,h % 256]++r
theorem MC (h:Int) {r:List Int} (hr:H16 r):Byt (idB h r):=fun y hy=>by
 rcases List.mem_append.1 hy with hy | hy
 ·simp only[List.mem_cons,List.not_mem_nil,or_false] at hy;rcases hy with rfl | rfl <;> omega
 ·exact hr.2 y hy
theorem vN (h:Int) {r:List Int} (hr:H16 r):(idB h r).length=18:=by simp[idB,hr.1]
structure IdBox (w:World) (h:Int) (r:List Int) (w0:World):Prop where
 k:w0.heap[w.heap.size]? = some (.cells (pkA h r) 44 (0,0))
 z:w0.heap[w.heap.size+1]? = some (.cells (Array.replicate 32 (Value.int .u8 0)) 77 (0,0))
 b:Below w.heap.size w w0
 s:w0.heap.size=w.heap.size+2
theorem IdBox.new (w:World) (h:Int) (r:List Int):IdBox w h r ((w.alloc (.cells (pkA h r) 44)).alloc (.cells (Array.replicate 32 (Value.int .u8 0)) 77)) :=
 ⟨(heap_alloc_old _ _ (by simp)).trans (heap_alloc_new w _),by have h:=heap_alloc_new (w.alloc (.cells (pkA h r) 44)) (.cells (Array.replicate 32 (Value.int .u8 0)) 77);rw[World.size_alloc] at h;exact h,((Below.refl _ _).alloc zl _).alloc (by simp) _,by simp⟩
theorem SU:(Tryz.prog.info? 5).map (fun i=>(i.zero,i.size,i.bytes))=some (some (.int .u8 0),1,1):=by kernel_rfl
theorem MB (h:Int) (r:List Int) (w:World) (hr:H16 r) (hk:KayIn w) (hk0:4<w.heap.size) :
 Calls Tryz.prog 64 #[.agg (pkA h r)] w fun e w'=>e=.returned (.agg (dg (idB h r)))∧Below w.heap.size w w':=by
 have iJ:=zh hr;have HK:=zh hk;clear hr hk;obtain⟨i0,hi0,hz0,hz1,hz2⟩:=info_parts SU;have HI0:=zh hi0;have HZ0:=zh hz0;have HZ1:=zh hz1;have HZ2:=zh hz2;clear hi0 hz0 hz1 hz2;have HT:=zh (IdBox.new w h r)
 go_enter Tryz.func64,Tryz.ntmps64
 go_upto_region 1 with (fail)
 generalize hw0:World.alloc (World.alloc w _) _=w0;have HT0:Hid (IdBox w h r w0):=by rw[←hw0];exact HT.out
 clear hw0 HT;have hs0:w.heap.size+2≤w0.heap.size:=Nat.le_of_eq HT0.out.s.symm;refine wp_region_held_drew (S:=fun w'=>w'.heap[w.heap.size]? = some (.cells (pkA h r) 44 (0,0))) (by kernel_rfl) HT0.out.k (fun hHeld=>?_);refine zv 0 rfl ?_;refine zx 1 rfl (v:=?_) ?_ ?_;rotate_left
 ·intro w' hSw;have c1:=AH hSw;go_simp;try with_reducible rfl
 refine zv 2 rfl ?_;refine zv 4 rfl ?_;refine zv 5 rfl ?_;refine zr 3 rfl (fun K hK=>?_);have HO:=zh (World.ownsRow_lit (base:=w0.heap.size) (e:=5) (size:=1) w0 #[.int .u8 7,.int .u8 (h % 256)] 2 zl (by unfold maxLen;omega) rfl);have HQ:=zh (aA w0 (.cells #[.int .u8 7,.int .u8 (h % 256)] 5));go_simp;generalize hw:World.drew (World.alloc w0 _)=w1;have HO1:Hid (w1.ownsRow w0.heap.size 5 1 (.slice (some ⟨w0.heap.size,0,none⟩) 2 2) 2 [.int .u8 7,.int .u8 (h % 256)]):=by rw[←hw];exact HO.out.drew
 have HE1:Hid (Bw w0 w1):=by rw[←hw];exact HQ.out.drew
 clear hw HO HQ;have hs1:=HE1.out.size;have HK1:Hid (Ah w1 w.heap.size (pkA h r) 44):=(HE1.out.block _ zo).trans HT0.out.k;have HRR:Hid (∀ j u,(r.map (Value.int .u8))[j]? = some u→w1.cell? ((⟨w.heap.size,1,none⟩:Addr).add j)=some u):=fun j u hj=>by rw[Addr.add_mid];exact pk_r HK1.out j u hj
 refine hK.out _ _ HK1.out fun _=>?_;clear hK K
 try simp only[Act.put,zu]
 refine zr 6 rfl (fun K hK=>?_);rw[if_pos (by rfl)];refine wp_append_own w1 (.tmp 6) (.tmp 8) 22 rfl w0.heap.size 5 i0 (.int .u8 0) 1 1 Tryz.underlying22 HI0.out HZ0.out HZ1.out HZ2.out rfl (by decide) _ 2 _ rfl HO1.out ⟨w.heap.size,1,none⟩ 16 16 (r.map (Value.int .u8)) rfl (by rw[List.length_map,iJ.out.1]) (fun j u hj=>HRR.out j u hj) (fun u hu=>by obtain⟨i,_,rfl⟩:=List.mem_map.1 hu;rfl) (by unfold maxLen;omega) zo zo ?_;intro v2 w2 ho2 hg2 _;have HO2:Hid (w2.ownsRow w0.heap.size 5 1 v2 (idB h r).length ((idB h r).map (Value.int .u8))):=by
  show World.ownsRow _ _ _ _ _ _ _;rw[vN h iJ.out];exact ho2
 have HE2:Hid (Bw w0 w2):=HE1.out.grown hg2 zo (bO HO1.out);clear ho2 hg2;obtain⟨sp2,cap2,rfl,hsrc,hnil⟩:=eK HO2.out (MC h iJ.out);have xD:=zh hsrc;have IQ:=zh hnil;clear hsrc hnil;have hs2:=HE2.out.size;have HK2:Hid (Ah w2 w.heap.size (pkA h r) 44):=(HE2.out.block _ zo).trans HT0.out.k;refine hK.out _ _ HK2.out fun _=>?_;clear hK K
 try simp only[Act.put,zu]
 refine zr 7 rfl (fun K hK=>?_);go_simp;have HC:=zh (NL sp2 (idB h r).length cap2 (idB h r) w2 xD.out (HK.out.below (HT0.out.b.trans (HE2.out.mono zo)) hk0) zo (by rw[vN h iJ.out];omega))
 with_reducible refine HC.out.mono ?_
 rintro e w3 ⟨rfl,hb3⟩;have HE3:Hid (Bw w2 w3):=hb3;have HZ3:Hid (Ah w3 (w.heap.size+1) (Array.replicate 32 (Value.int .u8 0)) 77):=(hb3.block _ zo).trans ((HE2.out.block _ zo).trans HT0.out.z);clear hb3;have HK3:Hid (Ah w3 w.heap.size (pkA h r) 44):=(HE3.out.block _ zo).trans HK2.out;go_wp2_with fail;refine hK.out _ _ HK3.out fun _=>?_;clear hK K
 try simp only[Act.put,zu]
 refine zr 8 rfl (fun K hK=>?_);rw[if_pos (by rfl)];refine wp_store_row 77 _ _ rfl (w.heap.size+1) _ rfl rfl 77 _ HZ3.out (iH _) (by rw[kP];rfl) (nT _) ?_
 skip
 refine hK.out _ _ ((setRow_other _ _ _ _ zo).trans HK3.out) fun _=>?_;clear hK K
 try simp only[Act.put,zu]
 refine zd ?_ _;go_wp2_with fail;exact bodyPost_ret (results_cell_row (P:=Tryz.prog) rfl _ _ (w.heap.size+1) 77 _ (0,0) _ rfl (setRow_heap _ _ _ _ _ _ HZ3.out) Tryz.underlying77 rfl (iH _)) rfl ⟨rfl,below_setRow (HT0.out.b.trans ((HE2.out.mono zo).trans (HE3.out.mono zo))) zo _⟩
theorem oL (h:Int) (r:List Int) (w:World) (hr:H16 r) :
 Calls Tryz.prog 37 #[.agg (pkA h r)] w fun e w'=>e=.returned (.agg (dg (idB h r)))∧Below w.heap.size w w':=by
 have iJ:=zh hr;clear hr;obtain⟨i0,hi0,hz0,hz1,hz2⟩:=info_parts SU;have HI0:=zh hi0;have HZ0:=zh hz0;have HZ1:=zh hz1;have HZ2:=zh hz2;clear hi0 hz0 hz1 hz2;have HT:=zh (IdBox.new w h r)
 go_enter Tryz.func37,Tryz.ntmps37
 go_upto_region 1 with (fail)
 generalize hw0:World.alloc (World.alloc w _) _=w0;have HT0:Hid (IdBox w h r w0):=by rw[←hw0];exact HT.out
 clear hw0 HT;have hs0:w.heap.size+2≤w0.heap.size:=Nat.le_of_eq HT0.out.s.symm;have c0:=AH HT0.out.k;have HO:=zh (World.ownsRow_lit (base:=w0.heap.size) (e:=5) (size:=1) w0 #[.int .u8 7,.int .u8 (h % 256)] 2 zl (by unfold maxLen;omega) rfl);have HQ:=zh (aA w0 (.cells #[.int .u8 7,.int .u8 (h % 256)] 5))
 go_wp2_with (at_builtin;generalize hw:World.alloc w0 _=w1;have HO1:Hid (w1.ownsRow w0.heap.size 5 1 (.slice (some ⟨w0.heap.size,0,none⟩) 2 2) 2 [.int .u8 7,.int .u8 (h % 256)]):=(by rw[←hw];exact HO.out);have HE1:Hid (Below w0.heap.size w0 w1):=(by rw[←hw];exact HQ.out);clear hw HO HQ;have hs1:=HE1.out.size;have HK1:Hid (w1.heap[w.heap.size]? = some (.cells (pkA h r) 44 (0,0))):=((HE1.out.block _ zo).trans HT0.out.k);have HRR:Hid (∀ j u,(r.map (Value.int .u8))[j]? = some u→w1.cell? ((⟨w.heap.size,1,none⟩:Addr).add j)=some u):=(fun j u hj=>by rw[Addr.add_mid];exact pk_r HK1.out j u hj);refine wpList_append_own w1 rfl (.tmp 8) (.tmp 10) 22 rfl w0.heap.size 5 i0 (.int .u8 0) 1 1 Tryz.underlying22 HI0.out HZ0.out HZ1.out HZ2.out rfl (by decide) _ 2 _ rfl HO1.out ⟨w.heap.size,1,none⟩ 16 16 (r.map (Value.int .u8)) rfl (by rw[List.length_map,iJ.out.1]) (fun j u hj=>HRR.out j u hj) (fun u hu=>by obtain⟨i,_,rfl⟩:=List.mem_map.1 hu;rfl) (by unfold maxLen;omega) zo zo ?_;intro v2 w2 ho2 hg2 _)
 clear c0;have HO2:Hid (w2.ownsRow w0.heap.size 5 1 v2 (idB h r).length ((idB h r).map (Value.int .u8))):=by
  show World.ownsRow _ _ _ _ _ _ _;rw[vN h iJ.out];exact ho2
 have HE2:Hid (Bw w0 w2):=HE1.out.grown hg2 zo (bO HO1.out);clear ho2 hg2;obtain⟨sp2,cap2,rfl,hsrc,hnil⟩:=eK HO2.out (MC h iJ.out);have xD:=zh hsrc;have IQ:=zh hnil;clear hsrc hnil;have hs2:=HE2.out.size;refine (oM sp2 (idB h r).length cap2 (idB h r) w2 xD.out IQ.out (by rw[vN h iJ.out];omega)).mono ?_;rintro e w3 ⟨rfl,hb3⟩;have HE3:Hid (Bw w2 w3):=hb3;have HZ3:Hid (Ah w3 (w.heap.size+1) (Array.replicate 32 (Value.int .u8 0)) 77):=(hb3.block _ zo).trans ((HE2.out.block _ zo).trans HT0.out.z);clear hb3
 go_wp2_with (refine wpList_store_row rfl 77 _ _ rfl (w.heap.size+1) _ rfl rfl 77 _ HZ3.out (iH _) (by rw[kP];rfl) (nT _) ?_)
 exact bodyPost_ret (results_cell_row (P:=Tryz.prog) rfl _ _ (w.heap.size+1) 77 _ (0,0) _ rfl (setRow_heap _ _ _ _ _ _ HZ3.out) Tryz.underlying77 rfl (iH _)) rfl ⟨rfl,below_setRow (HT0.out.b.trans ((HE2.out.mono zo).trans (HE3.out.mono zo))) zo _⟩
end Go.Proofs.YtaeobegaodhpcaaGreatDoor
