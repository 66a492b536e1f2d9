/-
  Envelopes: what Sign answers, by its arguments; the walk of Sign (conditions: the table of constants reads as it is laid; slices.Insert at lists of this length answers as it should).
-/
import Derived.Test.YtaeobegaodhpcaaGreatDoorEnvF
import Derived.Test.YtaeobegaodhpcaaGreatDoorEnvG
import Derived.Test.YtaeobegaodhpcaaGreatDoorKeyRd
set_option maxRecDepth 100000
set_option maxHeartbeats 8000000
namespace Go.Proofs.YtaeobegaodhpcaaGreatDoor
open Go.RowKit Go.Proofs.YtaeobegaodhpcaaGreatDoor.One
def sgE (h n:Int):Int:=if eI h=false∨n<0 then 1 else if lvN h.toNat≤n then 13 else 0
def mF (x:List Int) (h n:Int) (d:List Int):Pg:=⟨h,iR x h.toNat 0,n,jA x n d,eP x h.toNat n.toNat⟩
structure SaC (x:List Int) (h n:Int) (d:List Int) (x1:List Int) (h1 n1 l1 E:Int) (N M:Nat) (cl pl:List (List Int)):Prop where
 hx:H16 x1
 hn:N≤1000
 hm:M≤1000
 hc:cl.length=N
 hp:pl.length=M
 e:E=sgE h n
 k:(E≠0∧bQ=x1∧0=h1∧0=n1)∨(0=E∧∃ hk leaf:Nat,(hk:Int)=h∧(leaf:Int)=n∧hk≤6∧leaf<2 ^ hk∧x=x1∧h=h1∧n+1=n1∧n=l1∧68=N∧hk=M∧jA x leaf d=cl∧eP x hk leaf=pl)
 a:∀ w,KayIn w→4<w.heap.size→Calls Tryz.prog 57 #[.agg (sgA x h n),.agg (dgA d)] w fun e w'=>∃ sp1 c1 sp2 c2,e=.returned (.tuple #[.agg (sgA x1 h1 n1),.agg (siA l1 (.slice sp1 N c1) (.slice sp2 M c2)),.int .i64 E])∧OwnHv w' w.heap.size (.slice sp1 N c1) cl∧OwnHv w' w.heap.size (.slice sp2 M c2) pl∧Below w.heap.size w w'
 b:∀ w,Calls Tryz.prog 33 #[.agg (sgA x h n),.agg (dgA d)] w fun e w'=>∃ sp1 c1 sp2 c2,e=.returned (.tuple #[.agg (sgA x1 h1 n1),.agg (siA l1 (.slice sp1 N c1) (.slice sp2 M c2)),.int .i64 E])∧OwnHv w' w.heap.size (.slice sp1 N c1) cl∧OwnHv w' w.heap.size (.slice sp2 M c2) pl∧Below w.heap.size w w'
theorem tK (x:List Int) (h n:Int) (d:List Int) (hx:H16 x) (hd:D32 d):∃ (x1:List Int) (h1 n1 l1 E:Int) (N M:Nat) (cl pl:List (List Int)),SaC x h n d x1 h1 n1 l1 E N M cl pl:=by
 by_cases hv:eI h=false∨n<0
 ·refine⟨bQ,0,0,0,1,0,0,[],[],aN,by omega,by omega,rfl,rfl,by unfold sgE;rw[if_pos hv],.inl ⟨by omega,rfl,rfl,rfl⟩,fun w hk hk0=>?_,fun w=>?_⟩
  ·exact (PA x h n d w hx hd hv).mono fun e w' ⟨he,hb⟩=>⟨none,0,none,0,he,OwnHv.nil _ _,OwnHv.nil _ _,hb⟩
  ·exact (KE x h n d w hx hv).mono fun e w' ⟨he,hb⟩=>⟨none,0,none,0,he,OwnHv.nil _ _,OwnHv.nil _ _,hb⟩
 ·have hv0:=hv;obtain⟨k,rfl,hk6⟩:∃ k:Nat,h=(k:Int)∧k≤6:=by
   have h1:¬ eI h=false:=fun e=>hv (.inl e);unfold eI at h1;have h2:0≤h∧h≤6:=by simpa using h1
   exact⟨h.toNat,by omega,by omega⟩
  have hn0:0≤n:=by have h1:¬ n<0:=fun e=>hv (.inr e);omega
  by_cases he:lvN k≤n
  ·refine⟨bQ,0,0,0,13,0,0,[],[],aN,by omega,by omega,rfl,rfl,by unfold sgE;rw[if_neg hv0,Int.toNat_natCast,if_pos he],.inl ⟨by omega,rfl,rfl,rfl⟩,fun w hk hk0=>?_,fun w=>?_⟩
   ·exact (PB x k n d w hx hd hk6 he).mono fun e w' ⟨he,hb⟩=>⟨none,0,none,0,he,OwnHv.nil _ _,OwnHv.nil _ _,hb⟩
   ·exact (KF x k n d w hx hk6 he).mono fun e w' ⟨he,hb⟩=>⟨none,0,none,0,he,OwnHv.nil _ _,OwnHv.nil _ _,hb⟩
  ·obtain⟨leaf,rfl⟩:∃ leaf:Nat,n=(leaf:Int):=⟨n.toNat,by omega⟩;have hl:leaf<2 ^ k:=by unfold lvN at he;omega
   refine⟨x,k,leaf+1,leaf,0,68,k,jA x leaf d,eP x k leaf,hx,by omega,by omega,lB _ _ _,iQ _ _ _,by unfold sgE;rw[if_neg hv0,Int.toNat_natCast,if_neg he],.inr ⟨rfl,k,leaf,rfl,rfl,hk6,hl,rfl,rfl,rfl,rfl,rfl,rfl,rfl,rfl⟩,fun w hk hk0=>?_,fun w=>?_⟩
   ·exact (UF x k leaf d w hx hd hk6 hl hk hk0).mono fun e w' ⟨spc,capc,gp,he,hc,hp,hb⟩=>⟨spc,capc,some ⟨gp,0,none⟩,k,he,hc,hp,hb⟩
   ·exact (PJ x k leaf d w hx hd hk6 hl).mono fun e w' ⟨spc,capc,spp,capp,he,hc,hp,hb⟩=>⟨spc,capc,spp,capp,he,hc,hp,hb⟩
def sR (L:List Pg) (p:Pg):List Pg:=L.takeWhile (fun y=>dls (idP y) (idP p))++p :: L.dropWhile (fun y=>dls (idP y) (idP p))
def AJ (L:List Pg) (p:Pg):Bool:=L.any fun y=>decide (idP y=idP p)
theorem YX {L:List Pg} {p:Pg} {k:Nat} (hk:k≤L.length) (lo:LoP L p k) (hi:HiP L p k):L.takeWhile (fun y=>dls (idP y) (idP p))=L.take k∧L.dropWhile (fun y=>dls (idP y) (idP p))=L.drop k:=by
 induction L generalizing k with
 | nil=>simp
 | cons y t ih =>
   cases k with
   | zero =>
     have h:=hi 0 y zl rfl;simp[List.takeWhile_cons,List.dropWhile_cons,h]
   | succ k =>
     have h:=lo 0 y zo rfl;have:=ih (k:=k) (by simpa using hk) (fun m z hm hz=>lo (m+1) z zo (by simpa using hz)) (fun m z hm hz=>hi (m+1) z zo (by simpa using hz));simp[List.takeWhile_cons,List.dropWhile_cons,h,this.1,this.2]
theorem LR {L:List Pg} {p:Pg} {k:Nat} (hk:k≤L.length) (lo:LoP L p k) (hi:HiP L p k):sR L p=L.take k++p :: L.drop k:=by
 unfold sR;rw[(YX hk lo hi).1,(YX hk lo hi).2]
theorem WA {L:List Pg} {p:Pg} {k:Nat} (hs:xS L) (lo:LoP L p k) (hi:HiP L p k):OE L p k=AJ L p:=by
 unfold OE AJ
 cases hx:L[k]? with
 | none =>
   symm;rw[List.any_eq_false];intro y hy;obtain⟨m,hm⟩:=List.mem_iff_getElem?.1 hy;have hml:=(List.getElem?_eq_some_iff.1 hm).1;have hkl:=List.getElem?_eq_none_iff.1 hx;have:=lo m y zo hm;simp[TE this]
 | some x =>
   show decide (idP x=idP p)=_;by_cases he:idP x=idP p
   ·rw[decide_eq_true he];symm;rw[List.any_eq_true];exact⟨x,List.mem_of_getElem? hx,by simp[he]⟩
   ·rw[decide_eq_false he];symm;rw[List.any_eq_false];intro y hy;obtain⟨m,hm⟩:=List.mem_iff_getElem?.1 hy;rcases Nat.lt_trichotomy m k with h1 | h1 | h1
    ·have:=lo m y h1 hm;simp[TE this]
    ·subst h1;rw[hx] at hm;injection hm with hm;subst hm;simp[he]
    ·have h2:=uY hs h1 hx hm;have h3:=hi k x zl hx;have hne:idP y≠idP p:=fun e=>by rw[e,h3] at h2;cases h2
     simp[hne]
structure SgV where
 E:Int
 t:ByteArray
 b:List UInt8
 L:List Pg
 x:List Int
 h:Int
 n:Int
def xW (t:ByteArray) (b:List UInt8) (L:List Pg) (x:List Int) (h n:Int):Int :=
 if fM t b L=false then 1 else if sgE h n≠0 then sgE h n else if AJ L (mF x h n (fO t b))=true then 5 else if L.length=8 then 3 else 0
def ED (E:Int):SgV:=⟨E,⟨#[]⟩,[],[],bQ,0,0⟩
def qN (t:ByteArray) (b:List UInt8) (L:List Pg) (x:List Int) (h n:Int):SgV :=
 if xW t b L x h n=0 then ⟨0,t,b,sR L (mF x h n (fO t b)),x,h,n+1⟩ else ED (xW t b L x h n)
theorem SN {t:ByteArray} {b:List UInt8} {L:List Pg} {x:List Int} {h n:Int} (hv:fM t b L=false):qN t b L x h n=ED 1:=by
 have e:xW t b L x h n=1:=by unfold xW;rw[if_pos hv]
 unfold qN;rw[e,if_neg zo]
theorem SM {t:ByteArray} {b:List UInt8} {L:List Pg} {x:List Int} {h n:Int} (hv:fM t b L=true) (he:sgE h n≠0):qN t b L x h n=ED (sgE h n):=by
 have e:xW t b L x h n=sgE h n:=by unfold xW;rw[if_neg (by rw[hv];simp),if_pos he]
 unfold qN;rw[e,if_neg he]
theorem SK {t:ByteArray} {b:List UInt8} {L:List Pg} {x:List Int} {h n:Int} (hv:fM t b L=true) (he:sgE h n=0) (hh:AJ L (mF x h n (fO t b))=true):qN t b L x h n=ED 5:=by
 have e:xW t b L x h n=5:=by unfold xW;rw[if_neg (by rw[hv];simp),if_neg (by rw[he];simp),if_pos hh]
 unfold qN;rw[e,if_neg zo]
theorem SL {t:ByteArray} {b:List UInt8} {L:List Pg} {x:List Int} {h n:Int} (hv:fM t b L=true) (he:sgE h n=0) (hh:AJ L (mF x h n (fO t b))=false) (h8:L.length=8):qN t b L x h n=ED 3:=by
 have e:xW t b L x h n=3:=by unfold xW;rw[if_neg (by rw[hv];simp),if_neg (by rw[he];simp),if_neg (by rw[hh];simp),if_pos h8]
 unfold qN;rw[e,if_neg zo]
theorem JZ {t:ByteArray} {b:List UInt8} {L:List Pg} {x:List Int} {h n:Int} (hv:fM t b L=true) (he:sgE h n=0) (hh:AJ L (mF x h n (fO t b))=false) (h8:L.length≠8):qN t b L x h n=⟨0,t,b,sR L (mF x h n (fO t b)),x,h,n+1⟩:=by
 have e:xW t b L x h n=0:=by unfold xW;rw[if_neg (by rw[hv];simp),if_neg (by rw[he];simp),if_neg (by rw[hh];simp),if_neg h8]
 unfold qN;rw[if_pos e]
def SgR (V:SgV) (w:World) (e:Ending) (w':World):Prop :=
 ∃ p s,e=.returned (.tuple #[.agg (enA V.t p s),.agg (sgA V.x V.h V.n),.int .i64 V.E])∧(∃ l,l.map pg=V.L∧Hid (EnvIn w' w'.heap.size p s V.b l))∧Below w.heap.size w w'
theorem EnvIn.zero (w:World) (B:Nat):EnvIn w B aH aH [] []:=⟨⟨none,0,0,rfl,⟨rfl,fun h=>by omega⟩,fun _=>rfl⟩,⟨none,0,0,rfl,SgsIn.nil w B,fun _=>rfl⟩⟩
theorem SgR.err {w w':World} {E:Int} (hb:Below w.heap.size w w'):SgR (ED E) w (.returned (.tuple #[.agg zEn,.agg (sgA bQ 0 0),.int .i64 E])) w':=⟨aH,aH,rfl,⟨[],rfl,EnvIn.zero _ _⟩,hb⟩
theorem jK (t:ByteArray) (p s:Value):(Tryz.prog.info? 25).map (·.size)=some (enL t p s).length:=SW
def InsN (n:Nat):Prop:=∀ (k:Nat) (l:List Sg) (y:Sg) (w:World) (base:Nat) (sp:Option Addr) (cap g:Nat),k≤n→l.length=n→n≤1000→OwnG w base (.slice sp n cap) l→GB w g y→OkG y→base≤w.heap.size→(∀ k,(Value.slice sp n cap).ownBlock=some k→k<g) →
 Calls Tryz.prog 62 #[.slice sp n cap,.int .i64 (k:Int),.slice (some ⟨g,0,none⟩) 1 1] w fun e w'=>∃ sp' cap',e=.returned (.slice sp' (n+1) cap')∧Hid (OwnG w' base (.slice sp' (n+1) cap') (l.take k++y :: l.drop k))∧Below base w w'∧Hid (w.grownBy w' (Value.slice sp n cap).ownBlock)
structure SnF (w:World) (EA SA:Array Value) (w0:World):Prop where
 e:w0.heap[w.heap.size]? = some (.cells EA 25 (0,0))
 s:w0.heap[w.heap.size+1]? = some (.cells SA 52 (0,0))
 y:w0.heap[w.heap.size+1+1]? = some (.cells zEn 25 (0,0))
 z:w0.heap[w.heap.size+1+1+1]? = some (.cells (sgA bQ 0 0) 52 (0,0))
 b:Below w.heap.size w w0
 k:w.heap.size+4≤w0.heap.size
theorem SnF.below {w:World} {EA SA:Array Value} {w0 w1:World} (h:SnF w EA SA w0) (hb:Below w0.heap.size w0 w1):SnF w EA SA w1:=by
 have h1:=h.k;exact⟨(hb.block _ zo).trans h.e,(hb.block _ zo).trans h.s,(hb.block _ zo).trans h.y,(hb.block _ zo).trans h.z,h.b.trans (hb.mono zo),Nat.le_trans h1 hb.size⟩
theorem SnF.belowB {w:World} {EA SA:Array Value} {w0 w1:World} {B:Nat} (h:SnF w EA SA w0) (hb:Below B w0 w1) (hB:w.heap.size+4≤B):SnF w EA SA w1:=by
 have h1:=h.k;exact⟨(hb.block _ zo).trans h.e,(hb.block _ zo).trans h.s,(hb.block _ zo).trans h.y,(hb.block _ zo).trans h.z,h.b.trans (hb.mono zo),Nat.le_trans h1 hb.size⟩
theorem SnF.new (w:World) (EA SA:Array Value):SnF w EA SA ((((w.alloc (.cells EA 25)).alloc (.cells SA 52)).alloc (.cells zEn 25)).alloc (.cells (sgA bQ 0 0) 52)):=by
 have h1:=heap_alloc_new w (.cells EA 25);have b1:=aA w (.cells EA 25);have s1:=aF w (.cells EA 25);generalize w.alloc (.cells EA 25)=w1 at *;have h2:=heap_alloc_new w1 (.cells SA 52);have b2:=aA w1 (.cells SA 52);have s2:=aF w1 (.cells SA 52);generalize w1.alloc (.cells SA 52)=w2 at *;have h3:=heap_alloc_new w2 (.cells zEn 25);have b3:=aA w2 (.cells zEn 25);have s3:=aF w2 (.cells zEn 25);generalize w2.alloc (.cells zEn 25)=w3 at *;have h4:=heap_alloc_new w3 (.cells (sgA bQ 0 0) 52);have b4:=aA w3 (.cells (sgA bQ 0 0) 52);have s4:=aF w3 (.cells (sgA bQ 0 0) 52);generalize w3.alloc (.cells (sgA bQ 0 0) 52)=w4 at *;have b34:=b3.trans (b4.mono zo);have b24:=b2.trans (b34.mono zo);refine⟨(b24.block _ zo).trans h1,?_,?_,?_,b1.trans (b24.mono zo),by omega⟩
 ·rw[←s1];exact (b34.block _ zo).trans h2
 ·rw[show w.heap.size+1+1=w2.heap.size by omega];exact (b4.block _ zo).trans h3
 ·rw[show w.heap.size+1+1+1=w3.heap.size by omega];exact h4
end Go.Proofs.YtaeobegaodhpcaaGreatDoor
