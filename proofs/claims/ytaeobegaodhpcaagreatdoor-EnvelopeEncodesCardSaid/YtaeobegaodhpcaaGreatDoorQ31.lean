/-
  Arguments opened: digests and halves as arrays of bytes (conditions in each theorem).
-/
import Derived.Test.YtaeobegaodhpcaaGreatDoorZip
import Derived.ChangeSlices
import Derived.ProofKit
import Derived.OpenShut
import Derived.Deep.Matrix
import Derived.Deep.Slices
import Derived.SliceStrings
import Derived.ShutString
import Derived.ChangeOld
import Derived.Test.YtaeobegaodhpcaaGreatDoorEnvR
set_option maxRecDepth 100000
set_option maxHeartbeats 8000000
namespace Go.Proofs.YtaeobegaodhpcaaGreatDoor
open Go.ChangeShapes Go.WideShapes Go.ChangeAt Go.RowKit
theorem NK {H:Type} {enc:TypeId × Value→H} {W:World} {base fuel n:Nat} {spare:Nat→Bool} {held:Bool} {t e:TypeId} {k:IntKind} {cs:List Value} {x:DataW H × List MemPlace}
 (ht:Tryz.prog.underlying t=some (.array n e)) (he:Tryz.prog.underlying e=some (.int k)) (c1:Tryz.prog.cellsOf e=1) (cn:Tryz.prog.cellsOf t=n)
 (h:DataW.trod enc Tryz.prog W base spare held fuel t cs=some x):∃ L:List Int,cs=L.map (Value.int k)∧L.length=n∧∀ y ∈ L,(Lit.int k y).wf=true:=by
 obtain⟨xs,m,_,_,hl,hx,hall⟩:=DataW.trod_array ht h;rw[cn] at hl;rw[c1] at hall;have each:∀ i,(hi:i<cs.length)→cs[i]=.int k (intOf cs[i])∧(Lit.int k (intOf cs[i])).wf=true:=by
  intro i hi;have h1:=hall i zo;rw[List.getElem?_eq_getElem zo] at h1;have e1:(cs.drop (i*1)).take 1=[cs[i]]:=by
   rw[Nat.mul_one,List.drop_eq_getElem_cons hi,List.take_succ_cons,List.take_zero]
  rw[e1] at h1;obtain⟨z,e0,_,wn⟩:=DataW.trod_int he h1;have e2:cs[i]=.int k z:=by simpa using e0
  rw[e2];exact⟨rfl,by simpa [intOf] using wn⟩
 refine⟨cs.map intOf,?_,by simp[hl],fun y hy=>?_⟩
 ·apply List.ext_getElem
  ·simp
  ·intro i h1 h2;simp only[List.getElem_map];exact (each i h1).1
 ·obtain⟨v,hv,rfl⟩:=List.mem_map.1 hy;obtain⟨i,hi,rfl⟩:=List.getElem_of_mem hv;exact (each i hi).2
theorem rU {H:Type} {enc:TypeId × Value→H} {W:World} {base fuel:Nat} {spare:Nat→Bool} {held:Bool} {cs:List Value} {x:DataW H × List MemPlace}
 (h:DataW.trod enc Tryz.prog W base spare held fuel 42 cs=some x):∃ L:List Int,cs=L.map (Value.int .u8)∧H16 L:=by
 obtain⟨L,h1,h2,h3⟩:=NK Tryz.underlying42 Tryz.underlying5 (by kernel_rfl) (by kernel_rfl) h;refine⟨L,h1,h2,fun y hy=>?_⟩;have hb:=bounds_u8 (h3 y hy);exact⟨hb.1,by omega⟩
theorem pR {H:Type} {enc:TypeId × Value→H} {W:World} {fuel:Nat} {held:Bool} {da:Option Addr} {n cap:Nat} {x:DataW H × List MemPlace}
 (h:DataW.trod enc Tryz.prog W 0 (fun _=>true) held fuel 46 (Value.slice da n cap).cells.toList=some x):∃ l,HvsIn W W.heap.size da n cap l∧(da=none→cap=0)∧n≤9223372036854775807:=by
 have c16:Tryz.prog.cellsOf 42=16:=by kernel_rfl
 rcases Go.Deep.open_slice Tryz.underlying46 h with ⟨hcs,_⟩ | ⟨a,len,cap',m,k,D,Pl,hcs,_,hl,hm,hmm,_,hr⟩
 ·simp[Value.cells] at hcs;obtain⟨rfl,rfl,rfl⟩:=hcs;exact⟨[],⟨rfl,fun y hy=>(by cases hy),fun h=>absurd h zo⟩,fun _=>rfl,by omega⟩
 ·simp[Value.cells] at hcs;obtain⟨rfl,rfl,rfl⟩:=hcs;simp only[if_true] at hmm;subst hmm;unfold maxLen at hm;rw[c16] at hr;have each:∀ i,i<m→∃ y:List Int,H16 y∧∀ j,j<16→W.cell? ((a.add (i*16)).add j)=(y.map (Value.int .u8))[j]?:=by
   intro i hi;obtain⟨cs',h1,h2⟩:=hr i hi;obtain⟨y,rfl,hy⟩:=rU h2;obtain⟨_,_,hc⟩:=World.cells?_some h1;exact⟨y,hy,fun j hj=>hc j zo⟩
  obtain⟨f,hf⟩:=Go.Deep.choose_lt each;refine⟨(List.range n).map f,⟨by simp,fun y hy=>?_,fun hn=>?_⟩,fun e=>(by cases e),by omega⟩
  ·obtain⟨i,hi,rfl⟩:=List.mem_map.1 hy
   exact (hf i (by have : i < n := by simpa using hi
                   omega)).1
  ·obtain⟨b,off,spot⟩:=a;have h0:=(hf 0 zo).2 0 zo;have hz:0<((f 0).map (Value.int .u8)).length:=by rw[List.length_map,(hf 0 zo).1.1];omega
   have hspot:spot=none:=by
    have h0':=h0;rw[List.getElem?_eq_getElem hz] at h0';simpa [Addr.add] using World.cell?_spot h0'
   subst hspot;refine⟨b,off,rfl,World.block_lt_of_cell? W _ (by rw[List.getElem?_eq_getElem hz] at h0;simpa [Addr.add] using h0),hl,fun i hi j v hv=>?_⟩;have e:((List.range n).map f).getD i []=f i:=by simp[List.getD_eq_getElem?_getD,hi]
   rw[e] at hv;have h1:=hf i zo;have hj:j<16:=by have:=(List.getElem?_eq_some_iff.1 hv).1;rw[List.length_map,h1.1.1] at this;exact this
   have h2:=h1.2 j hj;rw[Addr.add_mid,Addr.add_mid] at h2;rw[h2];exact hv
theorem PT {H:Type} {enc:TypeId × Value→H} {W:World} {fuel:Nat} {held:Bool} {cs:Array Value} {x:DataW H × List MemPlace}
 (h:DataW.trod enc Tryz.prog W 0 (fun _=>true) held fuel 44 (Value.agg cs).cells.toList=some x):∃ (n:Int) (L:List Int),cs=pkA n L∧H16 L:=by
 have c1:Tryz.prog.cellsOf 3=1:=by kernel_rfl
 have c16:Tryz.prog.cellsOf 42=16:=by kernel_rfl
 have c17:Tryz.prog.cellsOf 44=17:=by kernel_rfl
 generalize hl0:(Value.agg cs).cells.toList=l at h;obtain⟨xs,m,_,hxx,hl,hx,hall⟩:=DataW.trod_struct Tryz.underlying44 h;rw[c17] at hl;have h0:=hall 0 _ rfl;have h1:=hall 1 _ rfl;have k:xs.length=2:=hx;rw[List.getElem?_eq_getElem zo] at h0 h1;have h0':DataW.trod enc Tryz.prog W 0 (fun _=>true) held m 3 ((l.drop 0).take (Tryz.prog.cellsOf 3))=some (xs[0]'(by omega)):=h0;have h1':DataW.trod enc Tryz.prog W 0 (fun _=>true) held m 42 ((l.drop 1).take (Tryz.prog.cellsOf 42))=some (xs[1]'(by omega)):=h1;rw[c1] at h0';rw[c16] at h1';obtain⟨z,e1,_,_⟩:=DataW.trod_int Tryz.underlying3 h0';obtain⟨L1,e2,k1⟩:=rU h1';refine⟨z,L1,?_,k1⟩;have e:l=pkL z L1:=by
  show l=[.int .i64 z]++L1.map (Value.int .u8);rw[List.drop_zero] at e1;have a3:(l.drop 1).take 16=l.drop 1:=List.take_of_length_le (by rw[List.length_drop];omega);rw[a3] at e2;rw[←e1,←e2];exact (List.take_append_drop 1 l).symm
 unfold pkA;rw[←e,←hl0];simp[Value.cells]
theorem zK {H:Type} {enc:TypeId × Value→H} {W:World} {fuel:Nat} {held:Bool} {cs:List Value} {x:DataW H × List MemPlace}
 (h:DataW.trod enc Tryz.prog W 0 (fun _=>true) held fuel 46 cs=some x):∃ sp n cap l,cs=[.slice sp n cap]∧HvsIn W W.heap.size sp n cap l∧(sp=none→cap=0)∧n≤9223372036854775807:=by
 rcases Go.Deep.open_slice Tryz.underlying46 h with ⟨hcs,_⟩ | ⟨a,len,cap',m,k,D,Pl,hcs,_⟩
 ·subst hcs;obtain⟨l,h1,h2,h3⟩:=pR (da:=none) (n:=0) (cap:=0) h;exact⟨none,0,0,l,rfl,h1,h2,h3⟩
 ·subst hcs;obtain⟨l,h1,h2,h3⟩:=pR (da:=some a) (n:=len) (cap:=cap') h;exact⟨some a,len,cap',l,rfl,h1,h2,h3⟩
theorem PD {H:Type} {enc:TypeId × Value→H} {W:World} {fuel:Nat} {held:Bool} {cs:Array Value} {x:DataW H × List MemPlace}
 (h:DataW.trod enc Tryz.prog W 0 (fun _=>true) held fuel 48 (Value.agg cs).cells.toList=some x):∃ (a:Int) (sp1:Option Addr) (n1 c1:Nat) (l1:List (List Int)) (sp2:Option Addr) (n2 c2:Nat) (l2:List (List Int)),cs=siA a (.slice sp1 n1 c1) (.slice sp2 n2 c2) ∧
  HvsIn W W.heap.size sp1 n1 c1 l1∧HvsIn W W.heap.size sp2 n2 c2 l2∧(sp1=none→c1=0)∧(sp2=none→c2=0):=by
 have c1:Tryz.prog.cellsOf 3=1:=by kernel_rfl
 have cs1:Tryz.prog.cellsOf 46=1:=by kernel_rfl
 have c3:Tryz.prog.cellsOf 48=3:=by kernel_rfl
 generalize hl0:(Value.agg cs).cells.toList=l at h;obtain⟨xs,m,_,hxx,hl,hx,hall⟩:=DataW.trod_struct Tryz.underlying48 h;rw[c3] at hl;have h0:=hall 0 _ rfl;have h1:=hall 1 _ rfl;have h2:=hall 2 _ rfl;have k:xs.length=3:=hx;rw[List.getElem?_eq_getElem zo] at h0 h1 h2;have h0':DataW.trod enc Tryz.prog W 0 (fun _=>true) held m 3 ((l.drop 0).take (Tryz.prog.cellsOf 3))=some (xs[0]'(by omega)):=h0;have h1':DataW.trod enc Tryz.prog W 0 (fun _=>true) held m 46 ((l.drop 1).take (Tryz.prog.cellsOf 46))=some (xs[1]'(by omega)):=h1;have h2':DataW.trod enc Tryz.prog W 0 (fun _=>true) held m 46 ((l.drop 2).take (Tryz.prog.cellsOf 46))=some (xs[2]'(by omega)):=h2;rw[c1] at h0';rw[cs1] at h1' h2';obtain⟨a,e0,_,_⟩:=DataW.trod_int Tryz.underlying3 h0';obtain⟨p1,n1,k1,l1,e1,q1,z1,_⟩:=zK h1';obtain⟨p2,n2,k2,l2,e2,q2,z2,_⟩:=zK h2';refine⟨a,p1,n1,k1,l1,p2,n2,k2,l2,?_,q1,q2,z1,z2⟩;have e:l=siL a (.slice p1 n1 k1) (.slice p2 n2 k2):=by
  show l=[.int .i64 a]++([.slice p1 n1 k1]++[.slice p2 n2 k2]);rw[List.drop_zero] at e0;have a3:(l.drop 2).take 1=l.drop 2:=List.take_of_length_le (by rw[List.length_drop];omega);rw[a3] at e2;rw[←e0,←e1,←e2];have b1:l.drop 2=(l.drop 1).drop 1:=by rw[List.drop_drop]
  rw[b1,List.take_append_drop 1 (l.drop 1)];exact (List.take_append_drop 1 l).symm
 unfold siA;rw[←e,←hl0];simp[Value.cells]
instance:Inhabited Ln:=⟨⟨none,0,0,[]⟩⟩
theorem jS {H:Type} {enc:TypeId × Value→H} {W:World} {fuel:Nat} {held:Bool} {sp:Option Addr} {n cap:Nat} {x:DataW H × List MemPlace}
 (h:DataW.trod enc Tryz.prog W 0 (fun _=>true) held fuel 22 (Value.slice sp n cap).cells.toList=some x):∃ l,BSrc W W.heap.size sp n cap l:=by
 rcases open_ints Tryz.underlying22 Tryz.underlying5 (by kernel_rfl) h with ⟨hcs,_⟩ | ⟨a,len,cap',zs,hcs,_,hl,hm,hzl,_,hc,hz⟩
 ·simp[Value.cells] at hcs;obtain⟨rfl,rfl,rfl⟩:=hcs;exact⟨[],rfl,fun h=>absurd h zo⟩
 ·simp[Value.cells] at hcs;obtain⟨rfl,rfl,rfl⟩:=hcs;simp only[if_true] at hzl;refine⟨(zs.take n).map fun z=>UInt8.ofNat z.toNat,by rw[List.length_map,List.length_take];omega,fun hn=>?_⟩;obtain⟨b,off,spot⟩:=a;have h0:=hc 0 zo;have hspot:spot=none:=by simpa [Addr.add] using World.cell?_spot h0
  subst hspot;refine⟨b,off,rfl,World.block_lt_of_cell? W _ (by simpa [Addr.add] using h0),hl,fun j hj=>?_⟩;rw[List.length_map,List.length_take] at hj;have h1:=hc j zo;rw[Addr.add_mid] at h1;have hb:=bounds_u8 (hz (zs[j]'(by omega)) (List.getElem_mem zo));have hg:zs.getD j 0=zs[j]'(by omega):=by rw[List.getD_eq_getElem?_getD,List.getElem?_eq_getElem zo];rfl
  rw[h1,hg];simp;omega
theorem KT {H:Type} {enc:TypeId × Value→H} {W:World} {fuel:Nat} {held:Bool} {l:List Value} {x:DataW H × List MemPlace}
 (h:DataW.trod enc Tryz.prog W 0 (fun _=>true) held fuel 44 l=some x):∃ (n:Int) (L:List Int),l=pkL n L∧H16 L:=by
 obtain⟨n,L,e,hL⟩:=PT (cs:=l.toArray) (show DataW.trod enc Tryz.prog W 0 (fun _=>true) held fuel 44 (Value.agg l.toArray).cells.toList=some x from h);refine⟨n,L,?_,hL⟩;have:=congrArg Array.toList e;simpa [pkA] using this
theorem JR {H:Type} {enc:TypeId × Value→H} {W:World} {fuel:Nat} {held:Bool} {l:List Value} {x:DataW H × List MemPlace}
 (h:DataW.trod enc Tryz.prog W 0 (fun _=>true) held fuel 48 l=some x):∃ (a:Int) (sp1:Option Addr) (n1 c1:Nat) (l1:List (List Int)) (sp2:Option Addr) (n2 c2:Nat) (l2:List (List Int)),l=siL a (.slice sp1 n1 c1) (.slice sp2 n2 c2) ∧
  HvsIn W W.heap.size sp1 n1 c1 l1∧HvsIn W W.heap.size sp2 n2 c2 l2∧(sp1=none→c1=0)∧(sp2=none→c2=0):=by
 obtain⟨a,sp1,n1,c1,l1,sp2,n2,c2,l2,e,r⟩:=PD (cs:=l.toArray) (show DataW.trod enc Tryz.prog W 0 (fun _=>true) held fuel 48 (Value.agg l.toArray).cells.toList=some x from h);refine⟨a,sp1,n1,c1,l1,sp2,n2,c2,l2,?_,r⟩;have:=congrArg Array.toList e;simpa [siA] using this
instance:Inhabited Sg:=⟨⟨0,[],0,none,0,0,[],none,0,0,[]⟩⟩
theorem FM {H:Type} {enc:TypeId × Value→H} {W:World} {fuel:Nat} {held:Bool} {l:List Value} {x:DataW H × List MemPlace}
 (h:DataW.trod enc Tryz.prog W 0 (fun _=>true) held fuel 50 l=some x):∃ y:Sg,l=aX y∧OkG y∧SgD W W.heap.size y:=by
 have c17:Tryz.prog.cellsOf 44=17:=by kernel_rfl
 have c3:Tryz.prog.cellsOf 48=3:=by kernel_rfl
 have c20:Tryz.prog.cellsOf 50=20:=by kernel_rfl
 obtain⟨xs,m,_,hxx,hl,hx,hall⟩:=DataW.trod_struct Tryz.underlying50 h;rw[c20] at hl;have h0:=hall 0 _ rfl;have h1:=hall 1 _ rfl;have k:xs.length=2:=hx;rw[List.getElem?_eq_getElem zo] at h0 h1;have h0':DataW.trod enc Tryz.prog W 0 (fun _=>true) held m 44 ((l.drop 0).take (Tryz.prog.cellsOf 44))=some (xs[0]'(by omega)):=h0;have h1':DataW.trod enc Tryz.prog W 0 (fun _=>true) held m 48 ((l.drop 17).take (Tryz.prog.cellsOf 48))=some (xs[1]'(by omega)):=h1;rw[c17] at h0';rw[c3] at h1';obtain⟨n,r,e0,hr⟩:=KT h0';obtain⟨a,sp1,n1,c1,l1,sp2,n2,c2,l2,e1,q1,q2,z1,z2⟩:=JR h1';refine⟨⟨n,r,a,sp1,n1,c1,l1,sp2,n2,c2,l2⟩,?_,hr,⟨q1,q2,z1,z2⟩⟩;show l=pkL n r++siL a (.slice sp1 n1 c1) (.slice sp2 n2 c2);rw[List.drop_zero] at e0;have a3:(l.drop 17).take 3=l.drop 17:=List.take_of_length_le (by rw[List.length_drop];omega);rw[a3] at e1;rw[←e0,←e1];exact (List.take_append_drop 17 l).symm
theorem pJ {H:Type} {enc:TypeId × Value→H} {W:World} {fuel:Nat} {held:Bool} {da:Option Addr} {n cap:Nat} {x:DataW H × List MemPlace}
 (h:DataW.trod enc Tryz.prog W 0 (fun _=>true) held fuel 23 (Value.slice da n cap).cells.toList=some x):∃ l,SgsIn W W.heap.size da n cap l∧(da=none→cap=0):=by
 have c20:Tryz.prog.cellsOf 50=20:=by kernel_rfl
 rcases Go.Deep.open_slice Tryz.underlying23 h with ⟨hcs,_⟩ | ⟨a,len,cap',m,k,D,Pl,hcs,_,hl,hm,hmm,_,hr⟩
 ·simp[Value.cells] at hcs;obtain⟨rfl,rfl,rfl⟩:=hcs;exact⟨[],SgsIn.nil _ _,fun _=>rfl⟩
 ·simp[Value.cells] at hcs;obtain⟨rfl,rfl,rfl⟩:=hcs;simp only[if_true] at hmm;subst hmm;unfold maxLen at hm;rw[c20] at hr;have each:∀ i,i<m→∃ y:Sg,(OkG y∧SgD W W.heap.size y)∧∀ j,j<20→W.cell? ((a.add (i*20)).add j)=(aX y)[j]?:=by
   intro i hi;obtain⟨cs',h1,h2⟩:=hr i hi;obtain⟨y,rfl,hy,hd⟩:=FM h2;obtain⟨_,_,hc⟩:=World.cells?_some h1;exact⟨y,⟨hy,hd⟩,fun j hj=>hc j zo⟩
  obtain⟨f,hf⟩:=Go.Deep.choose_lt each;have mem:∀ y ∈ (List.range n).map f,OkG y∧SgD W W.heap.size y:=by
   intro y hy;obtain⟨i,hi,rfl⟩:=List.mem_map.1 hy
   exact (hf i (by have : i < n := by simpa using hi
                   omega)).1
  refine⟨(List.range n).map f,⟨by simp,fun y hy=>(mem y hy).1,fun y hy=>(mem y hy).2,fun hn=>?_⟩,fun e=>(by cases e)⟩;obtain⟨b,off,spot⟩:=a;have h0:=(hf 0 zo).2 0 zo;have hz:0<(aX (f 0)).length:=by rw[aJ (hf 0 zo).1.1];omega
  have hspot:spot=none:=by
   have h0':=h0;rw[List.getElem?_eq_getElem hz] at h0';simpa [Addr.add] using World.cell?_spot h0'
  subst hspot;refine⟨b,off,rfl,World.block_lt_of_cell? W _ (by rw[List.getElem?_eq_getElem hz] at h0;simpa [Addr.add] using h0),hl,fun i y hy j v hv=>?_⟩;have hi:i<n:=by have:=(List.getElem?_eq_some_iff.1 hy).1;simpa using this
  have e:y=f i:=by rw[List.getElem?_map,List.getElem?_range hi] at hy;exact (Option.some.inj hy).symm
  subst e;have h1:=hf i zo;have hj:j<20:=by have:=(List.getElem?_eq_some_iff.1 hv).1;rw[aJ h1.1.1] at this;exact this
  have h2:=h1.2 j hj;rw[Addr.add_mid,Addr.add_mid] at h2;rw[h2];exact hv
theorem FL {H:Type} {enc:TypeId × Value→H} {W:World} {fuel:Nat} {held:Bool} {cs:List Value} {x:DataW H × List MemPlace}
 (h:DataW.trod enc Tryz.prog W 0 (fun _=>true) held fuel 23 cs=some x):∃ sp n cap l,cs=[.slice sp n cap]∧SgsIn W W.heap.size sp n cap l∧(sp=none→cap=0):=by
 rcases Go.Deep.open_slice Tryz.underlying23 h with ⟨hcs,_⟩ | ⟨a,len,cap',m,k,D,Pl,hcs,_⟩
 ·subst hcs;obtain⟨l,h1,h2⟩:=pJ (da:=none) (n:=0) (cap:=0) h;exact⟨none,0,0,l,rfl,h1,h2⟩
 ·subst hcs;obtain⟨l,h1,h2⟩:=pJ (da:=some a) (n:=len) (cap:=cap') h;exact⟨some a,len,cap',l,rfl,h1,h2⟩
theorem pB {H:Type} {enc:TypeId × Value→H} {W:World} {fuel:Nat} {held:Bool} {cs:List Value} {x:DataW H × List MemPlace}
 (h:DataW.trod enc Tryz.prog W 0 (fun _=>true) held fuel 22 cs=some x):∃ sp n cap l,cs=[.slice sp n cap]∧BSrc W W.heap.size sp n cap l∧(sp=none→cap=0)∧n≤cap:=by
 rcases Go.Deep.open_slice Tryz.underlying22 h with ⟨hcs,_⟩ | ⟨a,len,cap',m,k,D,Pl,hcs,_,hle,_⟩
 ·subst hcs;obtain⟨l,h1⟩:=jS (sp:=none) (n:=0) (cap:=0) h;exact⟨none,0,0,l,rfl,h1,fun _=>rfl,Nat.le_refl _⟩
 ·subst hcs;obtain⟨l,h1⟩:=jS (sp:=some a) (n:=len) (cap:=cap') h;exact⟨some a,len,cap',l,rfl,h1,(fun e=>nomatch e),hle⟩
theorem AQ {l:List Value} {a b c:Value} (hl:l.length=3) (e0:(l.drop 0).take 1=[a]) (e1:(l.drop 1).take 1=[b]) (e2:(l.drop 2).take 1=[c]):l=[a,b,c]:=by
 match l,hl with
 | [x0,x1,x2],_=>simp at e0 e1 e2;rw[e0,e1,e2]
theorem GM {l:List Value} {a b c d:Value} (hl:l.length=4) (e0:(l.drop 0).take 1=[a]) (e1:(l.drop 1).take 1=[b]) (e2:(l.drop 2).take 1=[c]) (e3:(l.drop 3).take 1=[d]):l=[a,b,c,d]:=by
 match l,hl with
 | [x0,x1,x2,x3],_=>simp at e0 e1 e2 e3;rw[e0,e1,e2,e3]
theorem LC {w:World} {r:Reach} {base:Nat} {v:Value} (h:Value.okWide Tryz.prog w r base 25 v):∃ cs,v=.agg cs:=by
 simp only[Value.okWide,Tryz.underlying25] at h;obtain⟨cs,h1,_⟩:=h;exact⟨cs,h1⟩
theorem LD {w:World} {r:Reach} {base:Nat} {v:Value} (h:Value.okWide Tryz.prog w r base 27 v):∃ cs,v=.agg cs:=by
 simp only[Value.okWide,Tryz.underlying27] at h;obtain⟨cs,h1,_⟩:=h;exact⟨cs,h1⟩
theorem QY {H:Type} {enc:TypeId × Value→H} {W:World} {fuel:Nat} {held:Bool} {cs:Array Value} {x:DataW H × List MemPlace}
 (h:DataW.trod enc Tryz.prog W 0 (fun _=>true) held fuel 25 (Value.agg cs).cells.toList=some x):∃ (t:ByteArray) (sp:Option Addr) (n cap:Nat) (b:List UInt8) (sq:Option Addr) (m cq:Nat) (l:List Sg),cs=enA t (.slice sp n cap) (.slice sq m cq) ∧
  BSrc W W.heap.size sp n cap b∧(sp=none→cap=0)∧SgsIn W W.heap.size sq m cq l∧(sq=none→cq=0):=by
 have c1:Tryz.prog.cellsOf 9=1:=by kernel_rfl
 have c2:Tryz.prog.cellsOf 22=1:=by kernel_rfl
 have c3:Tryz.prog.cellsOf 23=1:=by kernel_rfl
 have c4:Tryz.prog.cellsOf 25=3:=by kernel_rfl
 generalize hl0:(Value.agg cs).cells.toList=l at h;obtain⟨xs,m,_,hxx,hl,hx,hall⟩:=DataW.trod_struct Tryz.underlying25 h;rw[c4] at hl;have h0:=hall 0 _ rfl;have h1:=hall 1 _ rfl;have h2:=hall 2 _ rfl;have k:xs.length=3:=hx;rw[List.getElem?_eq_getElem zo] at h0 h1 h2;have h0':DataW.trod enc Tryz.prog W 0 (fun _=>true) held m 9 ((l.drop 0).take (Tryz.prog.cellsOf 9))=some (xs[0]'(by omega)):=h0;have h1':DataW.trod enc Tryz.prog W 0 (fun _=>true) held m 22 ((l.drop 1).take (Tryz.prog.cellsOf 22))=some (xs[1]'(by omega)):=h1;have h2':DataW.trod enc Tryz.prog W 0 (fun _=>true) held m 23 ((l.drop 2).take (Tryz.prog.cellsOf 23))=some (xs[2]'(by omega)):=h2;rw[c1] at h0';rw[c2] at h1';rw[c3] at h2';obtain⟨t,e0,_,_⟩:=DataW.trod_string Tryz.underlying9 h0';obtain⟨sp,n,cap,b,e1,q1,z1,_⟩:=pB h1';obtain⟨sq,m2,cq,l2,e2,q2,z2⟩:=FL h2';refine⟨t,sp,n,cap,b,sq,m2,cq,l2,?_,q1,z1,q2,z2⟩;have e:l=enL t (.slice sp n cap) (.slice sq m2 cq):=AQ hl e0 e1 e2;unfold enA;rw[←e,←hl0];simp[Value.cells]
theorem RH {H:Type} {enc:TypeId × Value→H} {W:World} {fuel:Nat} {held:Bool} {cs:Array Value} {x:DataW H × List MemPlace}
 (h:DataW.trod enc Tryz.prog W 0 (fun _=>true) held fuel 27 (Value.agg cs).cells.toList=some x):∃ (sp:Option Addr) (n cap:Nat) (b:List UInt8) (sc:Option Addr) (nc cc:Nat) (sn:List UInt8) (kk yy:Int),cs=caA (.slice sp n cap) (.slice sc nc cc) kk yy ∧
  BSrc W W.heap.size sp n cap b∧(sp=none→cap=0)∧n≤cap∧BSrc W W.heap.size sc nc cc sn∧(0≤yy∧yy<256):=by
 have c1:Tryz.prog.cellsOf 3=1:=by kernel_rfl
 have c2:Tryz.prog.cellsOf 22=1:=by kernel_rfl
 have c3:Tryz.prog.cellsOf 5=1:=by kernel_rfl
 have c4:Tryz.prog.cellsOf 27=4:=by kernel_rfl
 generalize hl0:(Value.agg cs).cells.toList=l at h;obtain⟨xs,m,_,hxx,hl,hx,hall⟩:=DataW.trod_struct Tryz.underlying27 h;rw[c4] at hl;have h0:=hall 0 _ rfl;have h1:=hall 1 _ rfl;have h2:=hall 2 _ rfl;have h3:=hall 3 _ rfl;have k:xs.length=4:=hx;rw[List.getElem?_eq_getElem zo] at h0 h1 h2 h3;have h0':DataW.trod enc Tryz.prog W 0 (fun _=>true) held m 22 ((l.drop 0).take (Tryz.prog.cellsOf 22))=some (xs[0]'(by omega)):=h0;have h1':DataW.trod enc Tryz.prog W 0 (fun _=>true) held m 22 ((l.drop 1).take (Tryz.prog.cellsOf 22))=some (xs[1]'(by omega)):=h1;have h2':DataW.trod enc Tryz.prog W 0 (fun _=>true) held m 3 ((l.drop 2).take (Tryz.prog.cellsOf 3))=some (xs[2]'(by omega)):=h2;have h3':DataW.trod enc Tryz.prog W 0 (fun _=>true) held m 5 ((l.drop 3).take (Tryz.prog.cellsOf 5))=some (xs[3]'(by omega)):=h3;rw[c2] at h0' h1';rw[c1] at h2';rw[c3] at h3';obtain⟨sp,n,cap,b,e0,q0,z0,hle⟩:=pB h0';obtain⟨sc,nc,cc,sn,e1,q1,_,_⟩:=pB h1';obtain⟨kk,e2,_,_⟩:=DataW.trod_int Tryz.underlying3 h2';obtain⟨yy,e3,_,wy⟩:=DataW.trod_int Tryz.underlying5 h3';have hy:=bounds_u8 wy;refine⟨sp,n,cap,b,sc,nc,cc,sn,kk,yy,?_,q0,z0,hle,q1,hy.1,by omega⟩;have e:l=caL (.slice sp n cap) (.slice sc nc cc) kk yy:=GM hl e0 e1 e2 e3;unfold caA;rw[←e,←hl0];simp[Value.cells]
end Go.Proofs.YtaeobegaodhpcaaGreatDoor
