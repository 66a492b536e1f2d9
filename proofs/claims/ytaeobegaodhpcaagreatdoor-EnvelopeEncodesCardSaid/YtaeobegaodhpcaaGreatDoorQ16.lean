/-
  The walks of document.convert at words and of readLine (condition: a string of at most ten million bytes).
-/
import Derived.Test.YtaeobegaodhpcaaGreatDoorZip
import Derived.Test.YtaeobegaodhpcaaGreatDoorQ15
import Derived.OwnWalk
import Derived.Laws.Entries
import Derived.Laws.OwnMore
import Derived.Deep.Cut
import Derived.WalkMore
set_option maxRecDepth 100000
set_option maxHeartbeats 8000000
namespace Go.Proofs.YtaeobegaodhpcaaGreatDoor
open Go.RowKit
def pcs (c:UInt8) (s:ByteArray):List ByteArray:=Lib.splitB (eQ c) 0 (Lib.countB s (eQ c)) s
theorem rR (c:UInt8) (s:ByteArray):(pcs c s).length=Lib.countB s (eQ c)+1:=Lib.splitB_all (eQ c) zl 0 _ s rfl
theorem tT {w:World} {base e size:Nat} {v:Value} {n:Nat} {xs:List Value} (h:w.ownsRow base e size v n xs):∃ sp cap,v=.slice sp n cap:=by
 obtain⟨_,⟨rfl,rfl⟩ | ⟨g,cap,cur,rfl,_⟩⟩:=h
 ·exact⟨none,0,rfl⟩
 ·exact⟨_,cap,rfl⟩
theorem nC {w:World} {base e size:Nat} {v:Value} {n:Nat} {xs:List Value} (h:w.ownsRow base e size v n xs):∀ k,v.ownBlock=some k→base≤k:=fun k hk=>(h.lt k hk).1
theorem dL {w w':World} {B e size n:Nat} {v:Value} {xs:List Value} (h:w.ownsRow B e size v n xs) (hb:Below w.heap.size w w'):w'.ownsRow B e size v n xs:=by
 obtain⟨h0,h1 | ⟨g,cap,cur,h1,h2,h3,h4⟩⟩:=h
 ·exact⟨h0,.inl h1⟩
 ·exact⟨h0,.inr ⟨g,cap,cur,h1,h2,(hb.block g (Array.getElem?_eq_some_iff.1 h3).1).trans h3,h4⟩⟩
theorem iK {P:Program} {w:World} {ops:Array Oper} {rest:List Oper} {o:Oper} {a:Act} {Q:Exit→Act→World→Prop} (hgd:o.guard=none) (s x:Operand) (t e:TypeId)
 (ho:o.op=.call { callee:=.builtin .append,args:=#[s,x],argTypes:=#[t,t] }) (ht:P.underlying t=some (.slice e)) (hi:(P.info? e).map (fun i=>(i.zero,i.size,i.bytes))=some (some (.string ByteArray.empty),1,16))
 (base:Nat) (v:Value) (xs:List ByteArray) (n:Nat) (hs:a.eval s=v) (hn:n=xs.length) (hown:w.ownsRow base e 1 v n (xs.map Value.string))
 (g:Nat) (y:ByteArray) (hx:a.eval x=.slice (some ⟨g,0,none⟩) 1 1) (hc:w.cell? ⟨g,0,none⟩=some (.string y))
 (hlen:n≤100000000) (hbase:base≤w.heap.size)
 (h:∀ sp cap w',Hid (w'.ownsRow base e 1 (.slice sp (n+1) cap) (n+1) ((xs++[y]).map Value.string))→w.grownBy w' v.ownBlock→wpList P ops Q rest (a.put o.dst (.slice sp (n+1) cap)) w'):wpList P ops Q (o :: rest) a w:=by
 obtain⟨i0,hi0,hz0,hz1,hz2⟩:=info_parts hi;refine wpList_append_own w hgd s x t ho base e i0 _ 1 16 ht hi0 hz0 hz1 hz2 rfl (by decide) v n _ hs hown ⟨g,0,none⟩ 1 1 [.string y] hx rfl ?_ (by intro u hu;simp at hu;subst hu;rfl) (by unfold maxLen;omega) zo hbase ?_
 ·intro j u hj;have hj0:j=0:=by have:=(List.getElem?_eq_some_iff.1 hj).1;simp at this;omega
  subst hj0;simp at hj;subst hj;rw[Addr.add_mid];exact hc
 ·intro v' w' h1 h2 _;obtain⟨sp,cap,rfl⟩:=tT h1;exact h sp cap w' (by show World.ownsRow _ _ _ _ _ _ _;rw[List.map_append];exact h1) h2
def JG (s:ByteArray):Option ByteArray:=(eD s.data.toList).map fun m=>⟨m.toArray⟩
def eF:List ByteArray→Option (List ByteArray)
 | []=>some []
 | s :: r => match JG s with
   | none=>none
   | some x=>(eF r).map (x :: ·)
theorem oF {s:ByteArray} {r:List ByteArray} (h:JG s=none):eF (s :: r)=none:=by rw[eF,h]
theorem oE {s x:ByteArray} {r:List ByteArray} (h:JG s=some x):eF (s :: r)=(eF r).map (x :: ·):=by rw[eF,h]
theorem RO (s:ByteArray) (w:World) (hs:s.size≤1099511627776) :
 Calls Tryz.prog 119 #[.string s] w fun e w'=>(match JG s with | some x=>e=.returned (.tuple #[.string x,.bool true]) | none=>e=.returned (.tuple #[.string ⟨#[]⟩,.bool false]))∧Below w.heap.size w w' :=
 (IC s w hs).mono fun e w' h=>by
  unfold EV at h;unfold JG
  cases hu:eD s.data.toList with
  | none=>rw[hu] at h;exact h
  | some l=>rw[hu] at h;exact h
def mM (w:World) (r:Option (List ByteArray)) (e:Ending) (w':World):Prop:=match r with
 | none=>e=.returned (.tuple #[.slice none 0 0,.bool false])∧Below w.heap.size w w'
 | some xs=>∃ sp cap,e=.returned (.tuple #[.slice sp xs.length cap,.bool true])∧w'.ownsRow w.heap.size 9 1 (.slice sp xs.length cap) xs.length (xs.map Value.string)∧Below w.heap.size w w'
theorem AA {w:World} {r:Option (List ByteArray)} {e:Ending} {w':World} (h:r=none) (he:e=.returned (.tuple #[.slice none 0 0,.bool false])) (hb:Below w.heap.size w w'):mM w r e w':=by unfold mM;rw[h];exact⟨he,hb⟩
theorem NA (g n:Nat) (ws:List ByteArray) (w:World) (hn:ws.length=n) (hn2:n≤10000001) (hg:g<w.heap.size) (hrow:∀ j,j<n→w.cell? ⟨g,j,none⟩=some (.string (ws.getD j ByteArray.empty))) (hsz:∀ x ∈ ws,x.size≤1099511627776) :
 Calls Tryz.prog 118 #[.slice (some ⟨g,0,none⟩) n n,.func (.func 119) #[] #[]] w (mM w (eF ws)):=by
 have HN:=zh hn;have mL:=zh hrow;have HSZ:=zh hsz;obtain⟨i0,hi0,hz0,hz1,hz2⟩:=info_parts nH;clear hn hrow hsz
 go_enter Tryz.func118,Tryz.ntmps118
 go_wp2_with (refine wpList_make_own w rfl _ _ 55 rfl w.heap.size 9 i0 _ 1 Tryz.underlying55 hi0 hz0 hz1 .i64 .i64 (n:Int) n rfl rfl rfl (by rw[hz2];omega) (by unfold maxLen;omega) zl ?_;intro w1 hown1 hg1)
 have HB1:=zh ((Below.refl w.heap.size w).grown hg1 zl (fun k e=>by cases e));have HO1:=zh hown1;clear hg1 hown1 hi0 hz0 hz1 hz2
 go_loopw [6,16] (fun v i wr=>∃ (k:Nat) (done:List ByteArray) (sp:Option Addr) (cap:Nat),k≤n∧i=.int .i64 k∧Hid (k=done.length)∧v=.slice sp k cap∧Hid (eF ws=(eF (ws.drop k)).map (done ++ ·))∧Hid (wr.ownsRow w.heap.size 9 1 (.slice sp k cap) k (done.map Value.string))∧Hid (Below w.heap.size w wr)) (fun _ i _=>n-(intOf i).toNat)
 case atStart=>exact⟨0,[],_,_,Nat.zero_le _,rfl,rfl,rfl,by show _=_;simp,HO1.out,HB1.out⟩
 case round =>
  clear HO1 HB1;obtain⟨k,done,sp,cap,hk,rfl,HK,rfl,HR,hown,hbe⟩:=hrel;have hbs:=hbe.out.size;by_cases hlt:k<n
  ·have hd:decide ((k:Int)<(n:Int))=true:=by simp;omega
   have p1:(0:Int)≤(k:Int):=by omega
   have p2:(k:Int)<(n:Int):=by omega
   have hlw:k<ws.length:=by rw[HN.out];exact hlt
   have c1:=(hbe.out.cell (p:=⟨g,k,none⟩) hg).trans (mL.out k hlt);have hge:ws.getD k ByteArray.empty=ws[k]:=by rw[List.getD_eq_getElem?_getD,List.getElem?_eq_getElem hlw];rfl
   rw[hge] at c1;have hdr:ws.drop k=ws[k] :: ws.drop (k+1):=List.drop_eq_getElem_cons hlw;have hc:=fun w=>RO ws[k] w (HSZ.out _ (List.getElem_mem hlw));obtain⟨x,hx⟩:∃ x,ws[k]=x:=⟨_,rfl⟩;rw[hx] at c1 hdr hc;clear hge hx
   cases hu:JG x with
   | none =>
     have HX:Hid (eF ws=none):=by show _=_;rw[HR.out,hdr,oF hu];rfl
     rw[hu] at hc;have HC:=zh hc;clear hc hu hdr;go_wp2_with fail;refine (HC.out _).mono ?_;rintro e w6 ⟨rfl,b6⟩;have B6:=zh (hbe.out.trans (b6.mono hbs));clear b6;go_wp2_with fail;go_ret2;exact AA HX.out rfl B6.out
   | some y =>
     have HX:Hid (eF ws=(eF (ws.drop (k+1))).map ((done++[y]) ++ ·)):=by
      show _=_;rw[HR.out,hdr,oE hu,Option.map_map];congr 1
      funext z
      simp
     rw[hu] at hc;have HC:=zh hc;clear hc hu hdr;go_wp2_with fail;refine (HC.out _).mono ?_;rintro e w6 ⟨rfl,b6⟩;have B6:=zh (hbe.out.trans (b6.mono hbs));have hz6:=B6.out.size;have hown6:=zh (dL hown.out b6);clear b6 c1
     go_wp2_with (first
      | (at_builtin;refine iK rfl (.tmp 28) (.tmp 30) 55 9 rfl Tryz.underlying55 nH w.heap.size _ done k rfl HK.out (hown6.out.alloc _) w6.heap.size y rfl (by simp) zo (by simp;omega) ?_;intro sp5 cap5 w5 hown5 hg5))
     have hbe5:=(B6.out.alloc hz6 (.cells #[.string y] 9)).grown hg5 (by simp;omega) (nC hown6.out);go_roundw
     case rel=>exact⟨k+1,done++[y],sp5,cap5,by omega,by go_num,by show _=_;rw[List.length_append,←HK.out];rfl,rfl,HX,hown5,hbe5⟩
     case measure=>simp[intOf];omega
  ·obtain rfl:n=k:=by omega
   have hd:decide ((n:Int)<(n:Int))=false:=by simp
   have HX:Hid (eF ws=some done):=by
    show _=_;rw[HR.out,List.drop_eq_nil_of_le (by rw[HN.out];exact Nat.le_refl _)];simp[eF]
   go_wp2_with fail;go_ret2;unfold mM;rw[HX.out];have h1:=hown.out;have h2:=HK.out;rw[h2] at h1 ⊢;exact⟨sp,cap,rfl,h1,hbe.out⟩
theorem hF (w:World) (o:Obj):Below w.heap.size w (w.alloc o):=(Below.refl _ _).alloc zl _
theorem gF {w:World} {base base':Nat} {e:TypeId} {size:Nat} {v:Value} {n:Nat} {xs:List Value} (h:w.ownsRow base e size v n xs) (hb:base'≤base):w.ownsRow base' e size v n xs :=
 ⟨h.1,h.2.imp id fun ⟨g,cap,cur,h1,h2,h3⟩=>⟨g,cap,cur,h1,Nat.le_trans hb h2,h3⟩⟩
theorem rF (sep:ByteArray):∀ (k:Nat) (s:ByteArray),∀ x ∈ Lib.splitB sep 0 k s,x.size≤s.size
 | 0,s,x,hx=>by rw[Lib.splitB_zero,List.mem_singleton] at hx;subst hx;exact Nat.le_refl _
 | k + 1, s, x, hx => by
   unfold Lib.splitB at hx
   split at hx
   ·rw[List.mem_singleton] at hx;subst hx;exact Nat.le_refl _
   ·rcases List.mem_cons.1 hx with h | h
    ·subst h;rw[ByteArray.size_extract];omega
    ·have:=rF sep k _ x h;rw[ByteArray.size_extract] at this;omega
theorem qP (c:UInt8) (s:ByteArray):∀ x ∈ pcs c s,x.size≤s.size:=rF _ _ _
theorem vH (c:UInt8) (s:ByteArray):Lib.countB s (eQ c)≤s.size:=Lib.countB_le (eQ c) zl s.size s zl
theorem yK (s:ByteArray) (w:World) (hs:s.size≤10000000) :
 Calls Tryz.prog 84 #[.string s] w (mM w (eF (pcs 32 s))):=by
 have HC:=zh (fun w=>lA s 32 w hs);have hl:=rR 32 s;have hc:=vH 32 s;have hz:=qP 32 s;have HV:Hid (∀ w1,w1=w.alloc (.cells ((pcs 32 s).map Value.string).toArray 9)→Calls Tryz.prog 118 #[.slice (some ⟨w.heap.size,0,none⟩) (Lib.countB s (eQ 32)+1) (Lib.countB s (eQ 32)+1),.func (.func 119) #[] #[]] w1 fun e w'=>∃ v b,e=.returned (.tuple #[v,.bool b])∧mM w (eF (pcs 32 s)) e w'):=by
  rintro w1 rfl;have hb:=hF w (.cells ((pcs 32 s).map Value.string).toArray 9);have hnew:=heap_alloc_new w (.cells ((pcs 32 s).map Value.string).toArray 9);refine (NA w.heap.size (Lib.countB s (eQ 32)+1) (pcs 32 s) _ hl zo (by simp) (fun j hj=>?_) (fun x hx=>Nat.le_trans (hz x hx) zo)).mono fun e w' h=>?_
  ·rw[cell_of_row _ w.heap.size j _ _ (0,0) hnew];have:j<(pcs 32 s).length:=by omega
   simp[this]
  ·unfold mM at h ⊢
   cases hu:eF (pcs 32 s) with
   | none =>
     rw[hu] at h;obtain⟨h1,h2⟩:=h;exact⟨_,_,h1,h1,hb.trans (h2.mono hb.size)⟩
   | some xs =>
     rw[hu] at h;obtain⟨sp,cap,h1,h2,h3⟩:=h;exact⟨_,_,h1,sp,cap,h1,gF h2 hb.size,hb.trans (h3.mono hb.size)⟩
 clear hl hc hz hs
 go_enter Tryz.func84,Tryz.ntmps84
 go_wp2_with fail;refine (HC.out _).mono ?_;rintro e w1 ⟨rfl,hw⟩;have HW:=zh hw;clear hw;go_wp2_with fail;refine (HV.out w1 HW.out).mono ?_;rintro e w2 ⟨v,b,rfl,hr⟩;have HR:=zh hr;clear hr;go_wp2_with fail;go_ret2;exact HR.out
structure StrsIn (w:World) (B:Nat) (sp:Option Addr) (n:Nat) (l:List ByteArray):Prop where
 len:l.length=n
 cells:0<n→∃ b off,sp=some ⟨b,off,none⟩∧b<B∧∀ j (hj:j<l.length),w.cell? ⟨b,off+j,none⟩=some (.string l[j])
theorem StrsIn.below {w w':World} {B B':Nat} {sp:Option Addr} {n:Nat} {l:List ByteArray} (h:StrsIn w B sp n l) (hb:Below B' w w') (hB:B≤B'):StrsIn w' B sp n l :=
 ⟨h.len,fun hn=>by
  obtain⟨b,off,e,hlt,hc⟩:=h.cells hn;exact⟨b,off,e,hlt,fun j hj=>(hb.cell (p:=⟨b,off+j,none⟩) (by show b<B';omega)).trans (hc j hj)⟩⟩
theorem StrsIn.more {w:World} {B B':Nat} {sp:Option Addr} {n:Nat} {l:List ByteArray} (h:StrsIn w B sp n l) (hB:B≤B'):StrsIn w B' sp n l :=
 ⟨h.len,fun hn=>by
  obtain⟨b,off,e,hlt,hc⟩:=h.cells hn;exact⟨b,off,e,by omega,hc⟩⟩
structure Ln where
 sp:Option Addr
 n:Nat
 cap:Nat
 l:List ByteArray
def Ln.val (q:Ln):Value:=.slice q.sp q.n q.cap
structure LinesIn (w:World) (B:Nat) (pa:Option Addr) (np:Nat) (ls:List Ln):Prop where
 len:ls.length=np
 cells:0<np→∃ pb po,pa=some ⟨pb,po,none⟩∧pb<B∧∀ j (hj:j<ls.length),w.cell? ⟨pb,po+j,none⟩=some ls[j].val
 each:∀ q ∈ ls,StrsIn w B q.sp q.n q.l
theorem LinesIn.below {w w':World} {B B':Nat} {pa:Option Addr} {np:Nat} {ls:List Ln} (h:LinesIn w B pa np ls) (hb:Below B' w w') (hB:B≤B'):LinesIn w' B pa np ls :=
 ⟨h.len,fun hn=>by
  obtain⟨pb,po,e,hlt,hc⟩:=h.cells hn;exact⟨pb,po,e,hlt,fun j hj=>(hb.cell (p:=⟨pb,po+j,none⟩) (by show pb<B';omega)).trans (hc j hj)⟩,fun q hq=>(h.each q hq).below hb hB⟩
theorem LinesIn.more {w:World} {B B':Nat} {pa:Option Addr} {np:Nat} {ls:List Ln} (h:LinesIn w B pa np ls) (hB:B≤B'):LinesIn w B' pa np ls :=
 ⟨h.len,fun hn=>by
  obtain⟨pb,po,e,hlt,hc⟩:=h.cells hn;exact⟨pb,po,e,by omega,hc⟩,fun q hq=>(h.each q hq).more hB⟩
def lng (s:ByteArray):Bool:=decide (32768<s.size)
def bV (l:List ByteArray):Nat:=if l.length=0 then 1 else if 120<l.length∨l.any lng=true then 3 else 0
def bH:List (List ByteArray)→Nat
 | []=>0
 | l :: r=>if bV l=0 then bH r else bV l
def chk (ls:List (List ByteArray)):Nat:=if 1000<ls.length then 3 else bH ls
theorem kM (a b:List (List ByteArray)) (h:bH a=0):bH (a++b)=bH b:=by
 induction a with
 | nil=>rfl
 | cons x t ih =>
   unfold bH at h;by_cases hx:bV x=0
   ·rw[if_pos hx] at h;show (if bV x=0 then bH (t++b) else bV x)=bH b;rw[if_pos hx];exact ih h
   ·rw[if_neg hx] at h;exact absurd h hx
theorem nQ (ls:List (List ByteArray)) (k:Nat) (hk:k<ls.length) (h:bH (ls.take k)=0) :
 (bV ls[k]=0→bH (ls.take (k+1))=0)∧(bV ls[k]≠0→bH ls=bV ls[k]):=by
 constructor
 ·intro hc;rw[List.take_succ_eq_append_getElem hk,kM _ _ h];unfold bH;rw[if_pos hc];rfl
 ·intro hc;have e:ls=ls.take k++ls[k] :: ls.drop (k+1):=by
   rw[←List.drop_eq_getElem_cons hk,List.take_append_drop]
  conv=>lhs;rw[e]
  rw[kM _ _ h];unfold bH;rw[if_neg hc]
theorem zQ {ls:List (List ByteArray)} (h:bH ls=0):∀ l ∈ ls,bV l=0:=by
 induction ls with
 | nil=>intro l hl;cases hl
 | cons x t ih =>
   unfold bH at h;by_cases hx:bV x=0
   ·rw[if_pos hx] at h;intro l hl;rcases List.mem_cons.1 hl with rfl | hl
    ·exact hx
    ·exact ih h l hl
   ·rw[if_neg hx] at h;exact absurd h hx
theorem IA {l:List ByteArray} (h:bV l=0):0<l.length∧l.length≤120∧∀ s ∈ l,s.size≤32768:=by
 unfold bV at h;by_cases h0:l.length=0
 ·rw[if_pos h0] at h;cases h
 ·rw[if_neg h0] at h;by_cases h1:120<l.length∨l.any lng=true
  ·rw[if_pos h1] at h;cases h
  ·have h2:¬ 120<l.length:=fun h=>h1 (.inl h);refine⟨by omega,by omega,fun s hs=>?_⟩;rcases Nat.lt_or_ge 32768 s.size with hlt | hge
   ·exact absurd (.inr (List.any_eq_true.2 ⟨s,hs,by unfold lng;exact decide_eq_true hlt⟩)) h1
   ·exact hge
def body (l:List ByteArray):List UInt8:=l.flatMap fun s=>dK s.data.toList++[32]
def qG (l:List ByteArray):List UInt8:=(body l).dropLast++[10]
def gK (ls:List (List ByteArray)):List UInt8:=ls.flatMap qG
def enc (ls:List (List ByteArray)):Nat × List UInt8 :=
 if chk ls=0 then (if 262144<(gK ls).length then (3,[]) else (0,gK ls)) else (chk ls,[])
theorem nV (l:List ByteArray) (k:Nat) (hk:k<l.length):body (l.take (k+1))=body (l.take k)++(dK l[k].data.toList++[32]):=by
 unfold body;rw[List.take_succ_eq_append_getElem hk,List.flatMap_append];simp
theorem MT (ls:List (List ByteArray)) (k:Nat) (hk:k<ls.length):gK (ls.take (k+1))=gK (ls.take k)++qG ls[k]:=by
 unfold gK;rw[List.take_succ_eq_append_getElem hk,List.flatMap_append];simp
theorem IU (l:List UInt8):0<(dK l).length:=by
 unfold dK
 split
 ·simp
 ·rename_i h
  cases l with
  | nil=>exact absurd rfl h
  | cons a t =>
    simp only[List.flatMap_cons,List.length_append];have:0<(sL a).length:=by unfold sL;split <;> simp
    omega
theorem RN {l:List ByteArray} (h:0<l.length):0<(body l).length:=by
 cases l with
 | nil=>cases h
 | cons a t=>unfold body;simp only[List.flatMap_cons,List.length_append];have:=IU a.data.toList;omega
theorem AC {l:List ByteArray} (h:0<l.length):body l=(body l).dropLast++[32]:=by
 obtain⟨k,hk⟩:∃ k,l.length=k+1:=⟨l.length-1,by omega⟩;have e:=nV l k zo;rw[List.take_of_length_le zo] at e;rw[e,←List.append_assoc,List.dropLast_concat]
theorem NI (l:List ByteArray) (k:Nat):(body (l.take k)).length≤(body l).length:=by
 have e:body l=body (l.take k)++body (l.drop k):=by
  unfold body;rw[←List.flatMap_append,List.take_append_drop]
 rw[e,List.length_append];omega
theorem MU (ls:List (List ByteArray)) (k:Nat):(gK (ls.take k)).length≤(gK ls).length:=by
 have e:gK ls=gK (ls.take k)++gK (ls.drop k):=by
  unfold gK;rw[←List.flatMap_append,List.take_append_drop]
 rw[e,List.length_append];omega
theorem pO {l:List ByteArray} (h:0<l.length):(qG l).length=(body l).length:=by
 unfold qG;rw[AC h];simp
theorem PI {xs bs:List UInt8} (h:0<bs.length) (c:UInt8):(xs++bs).set (xs.length+bs.length-1) c=xs++(bs.dropLast++[c]):=by
 rw[List.set_append_right _ _ zo];congr 1;have e:xs.length+bs.length-1-xs.length=bs.dropLast.length:=by rw[List.length_dropLast];omega
 obtain⟨ys,y,rfl⟩:∃ ys y,bs=ys++[y]:=⟨bs.dropLast,bs.getLast (List.ne_nil_of_length_pos h),(List.dropLast_concat_getLast _).symm⟩;rw[e,List.dropLast_concat,List.set_append_right _ _ zl,Nat.sub_self];rfl
def aD (ls:List Ln):List (List ByteArray):=ls.map Ln.l
theorem bD (ls:List Ln):(aD ls).length=ls.length:=by simp[aD]
theorem AM (ls:List Ln) (k:Nat) (hk:k<ls.length):(aD ls)[k]'(by rw[bD];exact hk)=ls[k].l:=by simp[aD]
def aAi (l:List ByteArray) (w:World) (e:Ending) (w':World):Prop:=∃ i:Int,e=.returned (.int .i64 i)∧Hid (decide (0≤i)=l.any lng)∧w=w'
theorem nW (l:List ByteArray) (k:Nat) (hk:k<l.length) (h:(l.take k).any lng=false) (hc:lng l[k]=false):(l.take (k+1)).any lng=false:=by
 rw[List.take_succ_eq_append_getElem hk,List.any_append,h];simp[hc]
theorem TG (l:List ByteArray) (k:Nat) (hk:k<l.length) (hc:lng l[k]=true):l.any lng=true:=List.any_eq_true.2 ⟨l[k],List.getElem_mem _,hc⟩
theorem vM (sp:Option Addr) (n cap:Nat) (l:List ByteArray) (w:World) (hl:StrsIn w w.heap.size sp n l) (hmax:n≤9223372036854775807) :
 Calls Tryz.prog 116 #[.slice sp n cap,.func (.func 79) #[] #[]] w (aAi l w):=by
 have HL:=zh hl;clear hl
 go_enter Tryz.func116,Tryz.ntmps116
 go_wp2_with fail
 go_loop [8] (fun i=>∃ k:Nat,k≤n∧i=.int .i64 k∧Hid ((l.take k).any lng=false)) (fun i=>n-(intOf i).toNat)
 case atStart=>exact⟨0,by omega,rfl,by show _=false;simp⟩
 case round =>
  obtain⟨k,hk,rfl,HA⟩:=hrel;by_cases hlt:k<n
  ·obtain⟨b,off,rfl,hb,hcell⟩:=HL.out.cells zo;have hk2:k<l.length:=by have:=HL.out.len;omega
   have ck:=hcell k hk2;clear hcell;have HN:=zh (nW l k hk2 HA.out);have HY:=zh (TG l k hk2);have HD:=zh (show lng l[k]=decide (32768<(l[k]).size) from rfl);generalize l[k]=s at *
   cases hd:decide (32768<s.size)
   ·rw[hd] at HD;have HD2:=zh hd;clear hd
    go_wp2_with (go_at_call 79;refine (rD _ _).mono ?_;rintro e w' ⟨rfl,rfl⟩;rw[HD2.out])
    go_round
    case rel=>exact⟨k+1,by omega,by go_num,HN.out HD.out⟩
    case measure=>simp[intOf];omega
   ·rw[hd] at HD;have HD2:=zh hd;clear hd
    go_wp2_with (go_at_call 79;refine (rD _ _).mono ?_;rintro e w' ⟨rfl,rfl⟩;rw[HD2.out])
    go_ret;exact⟨(k:Int),rfl,by show _=_;rw[HY.out HD.out];simp,rfl⟩
  ·obtain rfl:k=n:=by omega
   go_wp2
   go_ret;exact⟨-1,rfl,by show _=_;rw[List.take_of_length_le (by rw[HL.out.len];exact Nat.le_refl _)] at HA;rw[HA.out];rfl,rfl⟩
theorem jZ (sp:Option Addr) (n cap:Nat) (l:List ByteArray) (w:World) (hl:StrsIn w w.heap.size sp n l) (hmax:n≤9223372036854775807) :
 Calls Tryz.prog 78 #[.slice sp n cap,.func (.func 79) #[] #[]] w fun e w'=>e=.returned (.bool (l.any lng))∧w=w':=by
 have HC:=zh (vM sp n cap l w hl hmax);clear hl
 go_enter Tryz.func78,Tryz.ntmps78
 go_wp2_with (go_at_call 116;refine HC.out.mono ?_;rintro e w' ⟨i,rfl,hi,rfl⟩)
 go_ret;exact⟨bM hi.out,rfl⟩
theorem RE {ls:List Ln} (h:1000<ls.length):chk (aD ls)=3:=by unfold chk;rw[if_pos (by rw[bD];exact h)]
theorem WP {ls:List Ln} (h:¬ 1000<ls.length):chk (aD ls)=bH (aD ls):=by unfold chk;rw[if_neg (by rw[bD];exact h)]
theorem kQ {l:List ByteArray} (h:l.length=0):bV l=1:=by unfold bV;rw[if_pos h]
theorem kR {l:List ByteArray} (h:120<l.length):bV l=3:=by unfold bV;rw[if_neg zo,if_pos (.inl h)]
theorem pU {l:List ByteArray} (h0:l.length≠0) (h:l.any lng=true):bV l=3:=by unfold bV;rw[if_neg h0,if_pos (.inr h)]
theorem pV {l:List ByteArray} (h0:l.length≠0) (h1:¬ 120<l.length) (h:l.any lng=false):bV l=0:=by
 unfold bV;rw[if_neg h0,if_neg (by rw[h];simp;omega)]
theorem iI (pa:Option Addr) (np ncap:Nat) (ls:List Ln) (w:World) (hp:LinesIn w w.heap.size pa np ls) (hmax:np≤9223372036854775807) (hmax2:∀ q ∈ ls,q.n≤9223372036854775807) :
 Calls Tryz.prog 42 #[.slice pa np ncap] w fun e w'=>e=.returned (.int .i64 (chk (aD ls)))∧w=w':=by
 have HP:=zh hp;have HM:=zh hmax2;clear hp hmax2;have qL:=zh HP.out.len;by_cases hbig:1000<np
 ·have HC:=zh (RE (ls:=ls) (by rw[qL.out];exact hbig));generalize chk (aD ls)=r at *
  go_enter Tryz.func42,Tryz.ntmps42
  go_wp2
  go_ret;exact⟨kI (by rw[HC.out];rfl),rfl⟩
 ·have HC:=zh (WP (ls:=ls) (by rw[qL.out];exact hbig));generalize chk (aD ls)=r at *
  go_enter Tryz.func42,Tryz.ntmps42
  go_wp2_with fail
  go_loop [10] (fun i=>∃ k:Nat,k≤np∧i=.int .i64 k∧Hid (bH ((aD ls).take k)=0)) (fun i=>np-(intOf i).toNat)
  case atStart=>exact⟨0,by omega,rfl,by show _=_;simp[bH]⟩
  case round =>
   obtain⟨k,hk,rfl,HA⟩:=hrel;by_cases hlt:k<np
   ·have hk2:k<ls.length:=by rw[qL.out];exact hlt
    obtain⟨pb,po,rfl,hpb,hcell⟩:=HP.out.cells zo;have ck:w.cell? ⟨pb,po+k,none⟩=some (.slice ls[k].sp ls[k].n ls[k].cap):=hcell k hk2;have HE:=zh (HP.out.each _ (List.getElem_mem hk2));have hmx:=HM.out _ (List.getElem_mem hk2);have hfb:=nQ (aD ls) k (by rw[bD];exact hk2) HA.out;rw[AM ls k hk2] at hfb;have HF:=zh hfb;have hl:=HE.out.len;clear hcell hfb;generalize ls[k].sp=sp at *;generalize ls[k].n=n at *;generalize ls[k].cap=cap at *;generalize ls[k].l=l at *;have HLL:=zh hl;clear hl;by_cases h0:n=0
    ·subst h0;have HK:=zh (kQ HLL.out);go_wp2_with fail;go_ret;exact⟨kI (by rw[HC.out,HF.out.2 (by rw[HK.out];decide),HK.out];rfl),rfl⟩
    ·have h0b:((n:Int) == 0)=false:=beq_eq_false_iff_ne.2 zo;by_cases h1:120<n
     ·have HK:=zh (kR (l:=l) (by rw[HLL.out];exact h1));clear h0;go_wp2_with fail;go_ret;exact⟨kI (by rw[HC.out,HF.out.2 (by rw[HK.out];decide),HK.out];rfl),rfl⟩
     ·cases ha:l.any lng
      ·have HK:=zh (pV (l:=l) (by rw[HLL.out];exact h0) (by rw[HLL.out];exact h1) ha);have HA2:=zh ha;clear ha h0
       go_wp2_with (go_at_call 78;refine (jZ _ _ _ l _ HE.out hmx).mono ?_;rintro e w' ⟨rfl,rfl⟩;rw[HA2.out])
       go_round
       case rel=>exact⟨k+1,by omega,by go_num,HF.out.1 HK.out⟩
       case measure=>simp[intOf];omega
      ·have HK:=zh (pU (l:=l) (by rw[HLL.out];exact h0) ha);have HA2:=zh ha;clear ha h0
       go_wp2_with (go_at_call 78;refine (jZ _ _ _ l _ HE.out hmx).mono ?_;rintro e w' ⟨rfl,rfl⟩;rw[HA2.out])
       go_ret;exact⟨kI (by rw[HC.out,HF.out.2 (by rw[HK.out];decide),HK.out];rfl),rfl⟩
   ·obtain rfl:k=np:=by omega
    go_wp2
    go_ret;exact⟨kI (by rw[HC.out];rw[List.take_of_length_le (by rw[bD,qL.out];exact Nat.le_refl _)] at HA;rw[HA.out];rfl),rfl⟩
def TV (w:World) (ls:List (List ByteArray)) (e:Ending) (w':World):Prop :=
 ∃ v,e=.returned (.tuple #[v,.int .i64 ((enc ls).1:Nat)])∧Hid (w'.ownsRow w.heap.size 5 1 v (enc ls).2.length (Lib.byteCells (enc ls).2))∧Below w.heap.size w w'
theorem kJ {w:World} {base e size:Nat} {v:Value} {n:Nat} {xs:List Value} (h:w.ownsRow base e size v n xs):∃ sp cap,v=.slice sp n cap:=by
 obtain⟨_,⟨rfl,rfl⟩ | ⟨g,cap,cur,rfl,_⟩⟩:=h
 ·exact⟨none,0,rfl⟩
 ·exact⟨_,cap,rfl⟩
theorem wordsOf_get? (ls:List Ln):∀ (k:Nat) (hk:k<ls.length),(aD ls)[k]? = some ls[k].l:=fun k hk=>by simp[aD,List.getElem?_eq_getElem hk]
theorem zW {wl:List (List ByteArray)} {k:Nat} {l:List ByteArray} (h:wl[k]? = some l):gK (wl.take (k+1))=gK (wl.take k)++qG l:=by
 obtain⟨hk,rfl⟩:=List.getElem?_eq_some_iff.1 h;exact MT wl k hk
theorem aAb {wl:List (List ByteArray)} (h:chk wl=0):wl.length≤1000∧∀ l ∈ wl,bV l=0:=by
 unfold chk at h;by_cases h1:1000<wl.length
 ·rw[if_pos h1] at h;cases h
 ·rw[if_neg h1] at h;exact⟨by omega,zQ h⟩
theorem RF {wl:List (List ByteArray)} {k:Nat} {l:List ByteArray} (h:chk wl=0) (hk:wl[k]? = some l):0<l.length∧l.length≤120∧∀ s ∈ l,s.size≤32768 :=
 IA ((aAb h).2 l (List.mem_of_getElem? hk))
theorem oX {ls:List (List ByteArray)} (h:chk ls≠0):enc ls=(chk ls,[]):=by unfold enc;rw[if_neg h]
theorem vU {ls:List (List ByteArray)} (h:chk ls=0) (h2:262144<(gK ls).length):enc ls=(3,[]):=by unfold enc;rw[if_pos h,if_pos h2]
theorem vV {ls:List (List ByteArray)} (h:chk ls=0) (h2:¬ 262144<(gK ls).length):enc ls=(0,gK ls):=by unfold enc;rw[if_pos h,if_neg h2]
theorem uP (pa:Option Addr) (np ncap:Nat) (ls:List Ln) (w:World) (hp:LinesIn w w.heap.size pa np ls) (hmax:np≤9223372036854775807) (hmax2:∀ q ∈ ls,q.n≤9223372036854775807) :
 Calls Tryz.prog 18 #[.slice pa np ncap] w (TV w (aD ls)):=by
 have HCK:=zh (iI pa np ncap ls w hp hmax hmax2);have HP:=zh hp;have HM:=zh hmax2;clear hp hmax2;obtain⟨i0,hi0,hz0,hz1,hz2⟩:=info_parts Tryz.info5;have HI0:=zh hi0;have HZ0:=zh hz0;have HZ1:=zh hz1;have HZ2:=zh hz2;clear hi0 hz0 hz1 hz2;by_cases hc:chk (aD ls)=0
 ·have HE1:=zh (vU hc);have HE2:=zh (vV hc);rw[hc] at HCK;have HC:=zh hc;clear hc;have qL:=zh HP.out.len;have HL2:=zh (bD ls);have HGET:=zh (wordsOf_get? ls);generalize hwl:aD ls=wl at *;clear hwl
  go_enter Tryz.func18,Tryz.ntmps18
  go_wp2_with fail
  go_step3
  go_wp2_with (go_at_call 42;refine HCK.out.mono ?_;rintro e w' ⟨rfl,rfl⟩)
  go_step3
  go_wp2_with fail
  go_loopg [5,17] np (fun g b i wx=>∃ k:Nat,k+g=np∧i=.int .i64 k∧∃ sp cap,b=.slice sp (gK (wl.take k)).length cap∧Hid (wx.ownsRow w.heap.size 5 1 (.slice sp (gK (wl.take k)).length cap) (gK (wl.take k)).length (Lib.byteCells (gK (wl.take k))))∧(gK (wl.take k)).length≤262144∧Below w.heap.size w wx)
  case atStart=>exact⟨0,by omega,rfl,none,0,by simp[gK],by show World.ownsRow _ _ _ _ _ _ _;simp[gK];exact World.ownsRow_nil _ _ _ _,by simp[gK],Below.refl _ _⟩
  case round =>
   obtain⟨k,hg,rfl,sp,cap,rfl,hown,hle,hbe⟩:=hrel;by_cases hlt:k<np
   ·have hk2:k<ls.length:=by have:=qL.out;omega
    obtain⟨pb,po,rfl,hpb,hcell⟩:=HP.out.cells zo;have ck:wr.cell? ⟨pb,po+k,none⟩=some (.slice ls[k].sp ls[k].n ls[k].cap):=(hbe.cell (p:=⟨pb,po+k,none⟩) hpb).trans (hcell k hk2);have HE:=zh (HP.out.each _ (List.getElem_mem hk2));have HLK:=zh (HGET.out k hk2);have hmx:=HM.out _ (List.getElem_mem hk2);clear hcell;generalize ls[k].sp=lsp at *;generalize ls[k].n=n at *;generalize ls[k].cap=lcap at *;generalize ls[k].l=l at *;obtain⟨hpos,h120,hsz⟩:=RF HC.out HLK.out;have HSZ:=zh hsz;clear hsz;obtain rfl:=HE.out.len;have HNX:=zh (zW HLK.out);have HMO:=zh (MU wl (k+1));generalize gK (wl.take k)=X at *;go_wp2_with fail
    go_loopg [5,23] l.length (fun g b i wy=>∃ j:Nat,j+g=l.length∧i=.int .i64 j∧∃ sp cap,b=.slice sp (X++body (l.take j)).length cap∧Hid (wy.ownsRow w.heap.size 5 1 (.slice sp (X++body (l.take j)).length cap) (X++body (l.take j)).length (Lib.byteCells (X++body (l.take j))))∧(X++body (l.take j)).length≤262144∧Below w.heap.size w wy)
    case atStart=>exact⟨0,by omega,rfl,sp,cap,by simp[body],by show World.ownsRow _ _ _ _ _ _ _;simpa [body] using hown.out,by simpa [body] using hle,hbe⟩
    case round =>
     clear hown hbe ck;obtain⟨j,hg2,rfl,sp2,cap2,rfl,hown,hle2,hbe⟩:=hrel;have hbs:=hbe.size;by_cases hj:j<l.length
     ·obtain⟨sb,so,rfl,hsb,hsc⟩:=HE.out.cells zo;have cw:wr.cell? ⟨sb,so+j,none⟩=some (.string l[j]):=(hbe.cell (p:=⟨sb,so+j,none⟩) hsb).trans (hsc j hj);have hs1:l[j].size≤32768:=HSZ.out _ (List.getElem_mem hj);have HB:=zh (nV l j hj);have HBM:=zh (NI l (j+1));clear hsc;generalize l[j]=s at *;have hw1:=qM s.data.toList;rw[←Lib.size_eq] at hw1;have HA:Hid (X++body (l.take (j+1))=(X++body (l.take j))++(dK s.data.toList++[32])):=by show _=_;rw[HB.out,List.append_assoc]
      generalize X++body (l.take j)=Y at *;by_cases hbig:262144<(Y++(dK s.data.toList++[32])).length
      ·simp only[List.length_append,List.length_cons,List.length_nil] at hbig;go_wp2_with fail;refine (lW w.heap.size _ Y s wr hown.out hbs zo).mono ?_;rintro e w2 ⟨v2,rfl,hown2,hbe2⟩;have hs2:=hbe2.size;have hzb:(262144:Int)≤(((Y++dK s.data.toList).length:Nat):Int):=by rw[List.length_append];omega
       have hzc:(((Y++dK s.data.toList).length:Nat):Int)≤1048576:=by rw[List.length_append];omega
       have HZ:Hid (Y++(dK s.data.toList++[32])=(Y++dK s.data.toList)++[32]):=by show _=_;rw[List.append_assoc]
       generalize Y++dK s.data.toList=Z at *;clear hbig hw1 hle2
       go_upto_region 12 with (at_builtin;refine wpList_append_own _ rfl (.tmp 29) (.tmp 30) 22 rfl w.heap.size 5 i0 (.int .u8 0) 1 1 Tryz.underlying22 HI0.out HZ0.out HZ1.out HZ2.out rfl (by decide) _ _ _ rfl (hown2.out.alloc _) ⟨w2.heap.size,0,none⟩ 1 1 [.int .u8 32] rfl rfl (cell_one_new _ _ _) (by intro u hu;simp at hu;subst hu;rfl) (by unfold maxLen;omega) zo (by simp;omega) ?_;intro v3 w3 hown3 hg3 _;obtain⟨sp3,cap3,rfl⟩:=kJ hown3;have HO3:=zh hown3;clear hown3)
       have hd1:decide ((Z.length:Int)+1>262144)=true:=decide_eq_true zo;have hd2:decide (262144<(Z.length:Int)+1)=true:=decide_eq_true zo;have hd3:decide (262144≤(Z.length:Int))=true:=decide_eq_true zo
       go_wp2
       rw[Exit.noGoto_ret];go_ret2;have hfin:enc wl=(3,[]):=by
        refine HE1.out ?_;have h1:=HMO.out;rw[HNX.out,List.length_append,pO hpos] at h1;have h2:=congrArg List.length HA.out;rw[HZ.out] at h2;simp only[List.length_append,List.length_cons,List.length_nil] at h2;have h3:=HBM.out;omega
       exact⟨.slice none 0 0,by rw[hfin];rfl,by rw[hfin];exact World.ownsRow_nil _ _ _ _,(hbe.trans hbe2).alloc zo _ |>.grown hg3 (by simp;omega) (dG hown2.out)⟩
      ·simp only[List.length_append,List.length_cons,List.length_nil] at hbig;go_wp2_with fail;refine (lW w.heap.size _ Y s wr hown.out hbs zo).mono ?_;rintro e w2 ⟨v2,rfl,hown2,hbe2⟩;have hs2:=hbe2.size;have hzb:(((Y++dK s.data.toList).length:Nat):Int)≤262143:=by rw[List.length_append];omega
       have HZ:Hid (Y++(dK s.data.toList++[32])=(Y++dK s.data.toList)++[32]):=by show _=_;rw[List.append_assoc]
       generalize Y++dK s.data.toList=Z at *;clear hbig hw1 hle2
       go_upto_region 12 with (at_builtin;refine wpList_append_own _ rfl (.tmp 29) (.tmp 30) 22 rfl w.heap.size 5 i0 (.int .u8 0) 1 1 Tryz.underlying22 HI0.out HZ0.out HZ1.out HZ2.out rfl (by decide) _ _ _ rfl (hown2.out.alloc _) ⟨w2.heap.size,0,none⟩ 1 1 [.int .u8 32] rfl rfl (cell_one_new _ _ _) (by intro u hu;simp at hu;subst hu;rfl) (by unfold maxLen;omega) zo (by simp;omega) ?_;intro v3 w3 hown3 hg3 _;obtain⟨sp3,cap3,rfl⟩:=kJ hown3;have HO3:=zh hown3;clear hown3)
       have hd1:decide ((Z.length:Int)+1>262144)=false:=decide_eq_false zo;have hd2:decide (262144<(Z.length:Int)+1)=false:=decide_eq_false zo;have hd3:decide (262144≤(Z.length:Int))=false:=decide_eq_false zo
       go_wp2
       go_roundg (l.length-(j+1))
       case measure=>omega
       case rel =>
        refine⟨j+1,by omega,by go_num,sp3,cap3,?_,?_,?_,?_⟩
        ·rw[HA.out,HZ.out];simp
        ·rw[HA.out,HZ.out];have:=HO3.out;show World.ownsRow _ _ _ _ _ _ _;simpa [Lib.byteCells_append,Lib.byteCells,Nat.add_assoc] using this
        ·rw[HA.out,HZ.out];simp only[List.length_append,List.length_cons,List.length_nil];omega
        ·exact (hbe.trans hbe2).alloc zo _ |>.grown hg3 (by simp;omega) (dG hown2.out)
     ·obtain rfl:j=l.length:=by omega
      rw[List.take_of_length_le zl] at hown hle2;rw[List.take_of_length_le zl];have hbp:=RN hpos;have hll:=pO hpos;have HSL:=zh (PI (xs:=X) hbp 10);have HLL:Hid (qG l=(body l).dropLast++[10]):=rfl;have hyl:(X++body l).length=X.length+(body l).length:=List.length_append;obtain⟨m,hm⟩:∃ m,(X++body l).length=m+1:=⟨X.length+(body l).length-1,by omega⟩;have HLN:Hid ((X++qG l).length=m+1):=by show _=_;rw[List.length_append,hll];omega
      have HM1:Hid (X.length+(body l).length-1=m):=by show _=_;omega
      rw[hm] at hown hle2;rw[hm];generalize X++body l=Y at *;rcases pW (l:=Y) (by rw[hm];exact hown.out) with ⟨_,hnil⟩ | ⟨g,capg,hv,hgB,_,hcg⟩
      ·rw[hnil] at hm;simp at hm
      ·have hsp:sp2=some ⟨g,0,none⟩:=by injection hv
       subst hsp;obtain⟨ym,hcm⟩:∃ z:Int,wr.cell? ⟨g,m,none⟩=some (.int .u8 z):=⟨_,hcg m zo⟩;have hfm:=hown.out.frozenAt m;have HST:=zh (hown.out.stored m (.int .u8 10));clear hv hcg hm hyl hll hbp
       go_wp2
       go_roundg (np-(k+1))
       case measure=>omega
       case rel =>
        refine⟨k+1,by omega,by go_num,some ⟨g,0,none⟩,cap2,?_,?_,?_,?_⟩
        ·rw[HNX.out,HLN.out]
        ·rw[HNX.out,HLN.out];have e:(Lib.byteCells Y).set m (.int .u8 10)=Lib.byteCells (X++qG l):=by
          rw[HLL.out,←HSL.out,HM1.out];simp[Lib.byteCells]
         have:=HST.out.1;rw[e] at this;exact this
        ·rw[HNX.out,HLN.out];exact hle2
        ·exact hbe.setCell hgB _
   ·obtain rfl:k=np:=by omega
    have hall:gK (wl.take k)=gK wl:=by rw[List.take_of_length_le (by rw[HL2.out,qL.out];exact Nat.le_refl _)]
    rw[hall] at hown hle;rw[hall];have HE:=zh (HE2.out zo);clear hall;generalize gK wl=X at *;have hd1:decide ((X.length:Int)>262144)=false:=decide_eq_false zo;have hd2:decide (262144<(X.length:Int))=false:=decide_eq_false zo;go_wp2_with fail;rw[Exit.noGoto_ret];go_ret2;exact⟨_,by rw[HE.out];rfl,by rw[HE.out];exact hown,hbe⟩
 ·have HE:=zh (oX hc);have hc2:(((chk (aD ls):Nat):Int) != 0)=true:=by rw[bne_iff_ne];omega
  generalize aD ls=wl at *;generalize chk wl=r at *;have HC:=zh hc;clear hc
  go_enter Tryz.func18,Tryz.ntmps18
  go_wp2_with (go_at_call 42;refine HCK.out.mono ?_;rintro e w' ⟨rfl,rfl⟩)
  go_step3
  go_wp2_with (go_at_call 42;refine HCK.out.mono ?_;rintro e w' ⟨rfl,rfl⟩)
  rw[Exit.noGoto_ret];go_ret2;exact⟨.slice none 0 0,by rw[HE.out];rfl,by rw[HE.out];exact World.ownsRow_nil _ _ _ _,Below.refl _ _⟩
theorem yP {w:World} {b1 b2 e1 e2 s1 s2:Nat} {v1 v2:Value} {n1 n2:Nat} {x1 x2:List Value} (h1:w.ownsRow b1 e1 s1 v1 n1 x1) (h2:w.ownsRow b2 e2 s2 v2 n2 x2) (hne:e1≠e2):v1.ownBlock=none∨v1.ownBlock≠v2.ownBlock:=by
 obtain⟨_,⟨rfl,_⟩ | ⟨g1,c1,u1,rfl,_,g1h,_⟩⟩:=h1
 ·exact .inl rfl
 ·obtain⟨_,⟨rfl,_⟩ | ⟨g2,c2,u2,rfl,_,g2h,_⟩⟩:=h2
  ·exact .inr (by simp[Value.ownBlock])
  ·refine .inr (fun e=>hne ?_);have e':g1=g2:=by simpa [Value.ownBlock] using e
   subst e';rw[g1h] at g2h;injection g2h with g2h
   injection g2h
theorem LW:(Tryz.prog.info? 55).map (fun i=>(i.zero,i.size,i.bytes))=some (some (.slice none 0 0),1,24):=by kernel_rfl
theorem jV {P:Program} {w:World} {ops:Array Oper} {rest:List Oper} {o:Oper} {a:Act} {Q:Exit→Act→World→Prop} (hgd:o.guard=none) (s x:Operand) (t e:TypeId)
 (ho:o.op=.call { callee:=.builtin .append,args:=#[s,x],argTypes:=#[t,t] }) (ht:P.underlying t=some (.slice e)) (hi:(P.info? e).map (fun i=>(i.zero,i.size,i.bytes))=some (some (.slice none 0 0),1,24))
 (base:Nat) (v:Value) (xs:List Ln) (n:Nat) (hs:a.eval s=v) (hn:n=xs.length) (hown:w.ownsRow base e 1 v n (xs.map Ln.val))
 (g:Nat) (y:Ln) (hx:a.eval x=.slice (some ⟨g,0,none⟩) 1 1) (hc:w.cell? ⟨g,0,none⟩=some y.val)
 (hlen:n≤100000000) (hbase:base≤w.heap.size)
 (h:∀ sp cap w',Hid (w'.ownsRow base e 1 (.slice sp (n+1) cap) (n+1) ((xs++[y]).map Ln.val))→w.grownBy w' v.ownBlock→wpList P ops Q rest (a.put o.dst (.slice sp (n+1) cap)) w'):wpList P ops Q (o :: rest) a w:=by
 obtain⟨i0,hi0,hz0,hz1,hz2⟩:=info_parts hi;refine wpList_append_own w hgd s x t ho base e i0 _ 1 24 ht hi0 hz0 hz1 hz2 rfl (by decide) v n _ hs hown ⟨g,0,none⟩ 1 1 [y.val] hx rfl ?_ (by intro u hu;simp at hu;subst hu;rfl) (by unfold maxLen;omega) zo hbase ?_
 ·intro j u hj;have hj0:j=0:=by have:=(List.getElem?_eq_some_iff.1 hj).1;simp at this;omega
  subst hj0;simp at hj;subst hj;rw[Addr.add_mid];exact hc
 ·intro v' w' h1 h2 _;obtain⟨sp,cap,rfl⟩:=tT h1;exact h sp cap w' (by show World.ownsRow _ _ _ _ _ _ _;rw[List.map_append];exact h1) h2
def kU (w:World) (base:Nat) (q:Ln):Prop:=w.ownsRow base 9 1 (.slice q.sp q.n q.cap) q.n (q.l.map Value.string)
def oG:List ByteArray→Option (List (List ByteArray))
 | []=>some []
 | s :: r => match eF (pcs 32 s) with
   | none=>none
   | some x=>(oG r).map (x :: ·)
theorem rC {s:ByteArray} {r:List ByteArray} (h:eF (pcs 32 s)=none):oG (s :: r)=none:=by rw[oG,h]
theorem rB {s:ByteArray} {x:List ByteArray} {r:List ByteArray} (h:eF (pcs 32 s)=some x):oG (s :: r)=(oG r).map (x :: ·):=by rw[oG,h]
def AG (w:World) (r:Option (List (List ByteArray))) (e:Ending) (w':World):Prop:=match r with
 | none=>e=.returned (.tuple #[.slice none 0 0,.bool false])∧Below w.heap.size w w'
 | some L=>∃ (sp:Option Addr) (cap:Nat) (ls:List Ln),aD ls=L∧e=.returned (.tuple #[.slice sp ls.length cap,.bool true])∧w'.ownsRow w.heap.size 55 1 (.slice sp ls.length cap) ls.length (ls.map Ln.val)∧(∀ q ∈ ls,kU w' w.heap.size q)∧Below w.heap.size w w'
theorem uH {w:World} {r:Option (List (List ByteArray))} {e:Ending} {w':World} (h:r=none) (he:e=.returned (.tuple #[.slice none 0 0,.bool false])) (hb:Below w.heap.size w w'):AG w r e w':=by unfold AG;rw[h];exact⟨he,hb⟩
theorem GW (g n:Nat) (ws:List ByteArray) (w:World) (hn:ws.length=n) (hn2:n≤10000001) (hg:g<w.heap.size) (hrow:∀ j,j<n→w.cell? ⟨g,j,none⟩=some (.string (ws.getD j ByteArray.empty))) (hsz:∀ x ∈ ws,x.size≤10000000) :
 Calls Tryz.prog 83 #[.slice (some ⟨g,0,none⟩) n n,.func (.func 84) #[] #[]] w (AG w (oG ws)):=by
 have HN:=zh hn;have mL:=zh hrow;have HSZ:=zh hsz;obtain⟨i0,hi0,hz0,hz1,hz2⟩:=info_parts LW;clear hn hrow hsz
 go_enter Tryz.func83,Tryz.ntmps83
 go_wp2_with (refine wpList_make_own w rfl _ _ 57 rfl w.heap.size 55 i0 _ 1 Tryz.underlying57 hi0 hz0 hz1 .i64 .i64 (n:Int) n rfl rfl rfl (by rw[hz2];omega) (by unfold maxLen;omega) zl ?_;intro w1 hown1 hg1)
 have HB1:=zh ((Below.refl w.heap.size w).grown hg1 zl (fun k e=>by cases e));have HO1:=zh hown1;clear hg1 hown1 hi0 hz0 hz1 hz2
 go_loopw [6,16] (fun v i wr=>∃ (k:Nat) (done:List Ln) (sp:Option Addr) (cap:Nat),k≤n∧i=.int .i64 k∧Hid (k=done.length)∧v=.slice sp k cap∧Hid (oG ws=(oG (ws.drop k)).map (aD done ++ ·))∧Hid (wr.ownsRow w.heap.size 55 1 (.slice sp k cap) k (done.map Ln.val))∧Hid (∀ q ∈ done,kU wr w.heap.size q)∧Hid (Below w.heap.size w wr)) (fun _ i _=>n-(intOf i).toNat)
 case atStart=>exact⟨0,[],_,_,Nat.zero_le _,rfl,rfl,rfl,by show _=_;simp[aD],HO1.out,(fun q hq=>by cases hq),HB1.out⟩
 case round =>
  clear HO1 HB1;obtain⟨k,done,sp,cap,hk,rfl,HK,rfl,HR,hown,hea,hbe⟩:=hrel;have hbs:=hbe.out.size;by_cases hlt:k<n
  ·have hd:decide ((k:Int)<(n:Int))=true:=by simp;omega
   have p1:(0:Int)≤(k:Int):=by omega
   have p2:(k:Int)<(n:Int):=by omega
   have hlw:k<ws.length:=by rw[HN.out];exact hlt
   have c1:=(hbe.out.cell (p:=⟨g,k,none⟩) hg).trans (mL.out k hlt);have hge:ws.getD k ByteArray.empty=ws[k]:=by rw[List.getD_eq_getElem?_getD,List.getElem?_eq_getElem hlw];rfl
   rw[hge] at c1;have hdr:ws.drop k=ws[k] :: ws.drop (k+1):=List.drop_eq_getElem_cons hlw;have hc:=fun w=>yK ws[k] w (HSZ.out _ (List.getElem_mem hlw));obtain⟨x,hx⟩:∃ x,ws[k]=x:=⟨_,rfl⟩;rw[hx] at c1 hdr hc;clear hge hx
   cases hu:eF (pcs 32 x) with
   | none =>
     have HX:Hid (oG ws=none):=by show _=_;rw[HR.out,hdr,rC hu];rfl
     rw[hu] at hc;have HC:Hid (∀ w,Calls Tryz.prog 84 #[.string x] w fun e w'=>e=.returned (.tuple #[.slice none 0 0,.bool false])∧Below w.heap.size w w'):=hc;clear hc hu hdr;go_wp2_with fail;refine (HC.out _).mono ?_;rintro e w6 ⟨rfl,b6⟩;have B6:=zh (hbe.out.trans (b6.mono hbs));clear b6;go_wp2_with fail;go_ret2;exact uH HX.out rfl B6.out
   | some xs =>
     rw[hu] at hc;have HC:Hid (∀ w,Calls Tryz.prog 84 #[.string x] w fun e w'=>∃ sp cap,e=.returned (.tuple #[.slice sp xs.length cap,.bool true])∧w'.ownsRow w.heap.size 9 1 (.slice sp xs.length cap) xs.length (xs.map Value.string)∧Below w.heap.size w w'):=hc;have HX:Hid (∀ y:Ln,y.l=xs→oG ws=(oG (ws.drop (k+1))).map (aD (done++[y]) ++ ·)):=by
      rintro y rfl;rw[HR.out,hdr,rB hu,Option.map_map];congr 1
      funext z
      simp[aD]
     clear hc hu hdr;go_wp2_with fail;refine (HC.out _).mono ?_;rintro e w6 ⟨sp6,cap6,rfl,o6,b6⟩;have B6:=zh (hbe.out.trans (b6.mono hbs));have hz6:=B6.out.size;have hown6:=zh (dL hown.out b6);have HEA6:Hid (∀ q ∈ done,kU w6 w.heap.size q):=fun q hq=>dL (hea.out q hq) b6;have HO6:Hid (kU w6 w.heap.size ⟨sp6,xs.length,cap6,xs⟩):=gF o6 hbs;have HX2:=zh (HX.out ⟨sp6,xs.length,cap6,xs⟩ rfl);clear b6 c1 o6 HX hea
     go_wp2_with (first
      | (at_builtin;refine jV rfl (.tmp 28) (.tmp 30) 57 55 rfl Tryz.underlying57 LW w.heap.size _ done k rfl HK.out (hown6.out.alloc _) w6.heap.size (⟨sp6,xs.length,cap6,xs⟩:Ln) rfl (by simp[Ln.val]) zo (by simp;omega) ?_;intro sp5 cap5 w5 hown5 hg5))
     have hbe5:=(B6.out.alloc hz6 (.cells #[.slice sp6 xs.length cap6] 55)).grown hg5 (by simp;omega) (nC hown6.out);have HEA5:Hid (∀ q ∈ done++[(⟨sp6,xs.length,cap6,xs⟩:Ln)],kU w5 w.heap.size q):=by
      intro q hq;have hq6:kU w6 w.heap.size q:=by
       rcases List.mem_append.1 hq with h | h
       ·exact HEA6.out q h
       ·rw[List.mem_singleton.1 h];exact HO6.out
      exact World.ownsRow.kept (World.ownsRow.alloc hq6 _) hg5 (yP (w:=w6) hq6 hown6.out (by decide))
     go_roundw
     case rel=>exact⟨k+1,done++[(⟨sp6,xs.length,cap6,xs⟩:Ln)],sp5,cap5,by omega,by go_num,by show _=_;rw[List.length_append,←HK.out];rfl,rfl,HX2.out,hown5,HEA5.out,hbe5⟩
     case measure=>simp[intOf];omega
  ·obtain rfl:n=k:=by omega
   have hd:decide ((n:Int)<(n:Int))=false:=by simp
   have HX:Hid (oG ws=some (aD done)):=by
    show _=_;rw[HR.out,List.drop_eq_nil_of_le (by rw[HN.out];exact Nat.le_refl _)];simp[oG]
   go_wp2_with fail;go_ret2;unfold AG;rw[HX.out];have h1:=hown.out;have h2:=HK.out;rw[h2] at h1 ⊢;exact⟨sp,cap,done,rfl,rfl,h1,hea.out,hbe.out⟩
end Go.Proofs.YtaeobegaodhpcaaGreatDoor
