/-
  Envelopes: what signers make is valid, and every signature in it verifies (plain).
-/
import Derived.Test.YtaeobegaodhpcaaGreatDoorEnvP
set_option maxRecDepth 100000
set_option maxHeartbeats 8000000
namespace Go.Proofs.YtaeobegaodhpcaaGreatDoor
open Go.RowKit Go.Proofs.YtaeobegaodhpcaaGreatDoor.One
def layW:ByteArray:=⟨#[108,97,121,111,117,116]⟩
def eV:ByteArray:=⟨#[114,101,99,111,114,100]⟩
theorem qR {L:List Pg} {p z:Pg} (h:z ∈ sR L p):z ∈ L∨z=p:=by
 unfold sR at h;rcases List.mem_append.1 h with h | h
 ·exact .inl ((List.takeWhile_sublist _).subset h)
 ·rcases List.mem_cons.1 h with h | h
  ·exact .inr h
  ·exact .inl ((List.dropWhile_sublist _).subset h)
theorem DU (L:List Pg) (p:Pg):(sR L p).length=L.length+1:=by
 unfold sR;have:=congrArg List.length (List.takeWhile_append_dropWhile (p:=fun y=>dls (idP y) (idP p)) (l:=L));rw[List.length_append] at this;rw[List.length_append,List.length_cons];omega
theorem SE {L:List Pg} (hs:∀ z ∈ L,tL z=true) (hq:xS L):vsB L=true:=IX rfl fun j hj=>by
 obtain⟨x,hx⟩:∃ x,L[j]? = some x:=⟨L[j],List.getElem?_eq_getElem hj⟩;have h1:=hs x (List.mem_of_getElem? hx);unfold tF
 cases j with
 | zero=>simp only[hx,h1,Bool.and_true]
 | succ j =>
   obtain⟨y,hy⟩:∃ y,L[j]? = some y:=⟨L[j]'(by omega),List.getElem?_eq_getElem _⟩;simp only[hx,hy,h1,uY hq (Nat.lt_succ_self j) hy hx,Bool.and_true]
theorem AO {L:List Pg} (h:vsB L=true):∀ z ∈ L,tL z=true:=fun z hz=>by
 obtain⟨j,hj⟩:=List.mem_iff_getElem?.1 hz;unfold vsB at h;have h1:=List.all_eq_true.1 h j (List.mem_range.2 (List.getElem?_eq_some_iff.1 hj).1);unfold tF at h1;simp only[hj,Bool.and_eq_true] at h1;exact h1.1
theorem zD {y p:Pg} {t:List Pg} (h:dls (idP y) (idP p)=true):sR (y :: t) p=y :: sR t p:=by unfold sR;simp[List.takeWhile_cons,List.dropWhile_cons,h]
theorem zE {y p:Pg} {t:List Pg} (h:dls (idP y) (idP p)=false):sR (y :: t) p=p :: y :: t:=by unfold sR;simp[List.takeWhile_cons,List.dropWhile_cons,h]
theorem TD {a b:List Int} (h:dls a b=false) (hn:a≠b):dls b a=true:=by
 cases hb:dls b a with
 | true=>rfl
 | false=>exact absurd (MW h hb) hn
theorem MI {y p:Pg} {t:List Pg} (h:AJ (y :: t) p=false):idP y≠idP p∧AJ t p=false:=by
 unfold AJ at h ⊢;rw[List.any_cons,Bool.or_eq_false_iff] at h;exact⟨by simpa using h.1,h.2⟩
theorem DT:∀ {L:List Pg} {p:Pg},xS L→AJ L p=false→xS (sR L p)
 | [],p,_,_=>by show xS [p];unfold xS;exact List.pairwise_singleton _ _
 | y :: t, p, hs, hh => by
   have hs':(∀ z ∈ t,dls (idP y) (idP z)=true)∧xS t:=List.pairwise_cons.1 hs;have hh':=MI hh
   cases h:dls (idP y) (idP p) with
   | true =>
     rw[zD h];refine List.pairwise_cons.2 ⟨fun z hz=>?_,DT hs'.2 hh'.2⟩;rcases qR hz with hz | rfl
     ·exact hs'.1 z hz
     ·exact h
   | false =>
     rw[zE h];refine List.pairwise_cons.2 ⟨fun z hz=>?_,hs⟩;rcases List.mem_cons.1 hz with rfl | hz
     ·exact TD h hh'.1
     ·exact kO (TD h hh'.1) (hs'.1 z hz)
theorem mP {t:ByteArray} {b:List UInt8} {L:List Pg}:fM t b L=true↔nmB t.data.toList=true∧b.length≤32768∧L.length≤8∧vsB L=true:=by
 unfold fM;simp only[Bool.and_eq_true,decide_eq_true_eq]
structure GdP (t:ByteArray) (b:List UInt8) (L:List Pg):Prop where
 v:fM t b L=true
 s:∀ z ∈ L,IZ (fO t b) z=true
theorem GdP.nil {b:List UInt8} (hb:b.length≤200):GdP eV b []:=⟨mP.2 ⟨by decide,by omega,Nat.zero_le _,rfl⟩,fun z hz=>by cases hz⟩
theorem PG {h n:Int} (e:sgE h n=0):∃ k leaf:Nat,h=(k:Int)∧n=(leaf:Int)∧k≤6∧leaf<2 ^ k:=by
 unfold sgE at e
 split at e
 ·exact absurd e (by decide)
 ·rename_i h1
  split at e
  ·exact absurd e (by decide)
  ·rename_i h2
   have h3:eI h=true:=by
    cases hb:eI h with
    | true=>rfl
    | false=>exact absurd (Or.inl hb) h1
   have h4:¬ n<0:=fun e=>h1 (.inr e);unfold eI at h3;have h5:=of_decide_eq_true h3;refine⟨h.toNat,n.toNat,by omega,by omega,by omega,?_⟩;unfold lvN at h2;omega
theorem PF {t:ByteArray} {b:List UInt8} {L:List Pg} {x:List Int} {h n:Int} (h0:xW t b L x h n=0):fM t b L=true∧sgE h n=0∧AJ L (mF x h n (fO t b))=false∧L.length≠8:=by
 unfold xW at h0
 split at h0
 ·exact absurd h0 (by decide)
 ·rename_i h1
  split at h0
  ·rename_i h2;exact absurd h0 h2
  ·rename_i h2
   split at h0
   ·exact absurd h0 (by decide)
   ·rename_i h3
    split at h0
    ·exact absurd h0 (by decide)
    ·rename_i h4
     exact⟨by simpa using h1,by simpa using h2,by simpa using h3,h4⟩
theorem ZD (t:ByteArray) (b:List UInt8) (L:List Pg) (x:List Int) (h n:Int):(qN t b L x h n).E=xW t b L x h n:=by
 unfold qN;split
 ·rename_i h;exact h.symm
 ·rfl
theorem GdP.ins {t:ByteArray} {b:List UInt8} {L:List Pg} {x:List Int} {h n:Int} (hg:GdP t b L) (h0:xW t b L x h n=0):GdP t b (sR L (mF x h n (fO t b))):=by
 obtain⟨hv,hs,hh,h8⟩:=PF h0;obtain⟨k,leaf,rfl,rfl,hk,hl⟩:=PG hs;obtain⟨v1,v2,v3,v4⟩:=mP.1 hv;refine⟨mP.2 ⟨v1,v2,by rw[DU];omega,SE (fun z hz=>?_) (DT (uS v4) hh)⟩,fun z hz=>?_⟩
 ·rcases qR hz with hz | rfl
  ·exact AO v4 z hz
  ·exact DN hk hl
 ·rcases qR hz with hz | rfl
  ·exact hg.s z hz
  ·exact DM (kK _ _) hk hl
theorem OZ {L M:List Pg} (h:L.map idP=M.map idP) (hs:xS L):xS M:=by
 have h1:(L.map idP).Pairwise (fun a b=>dls a b=true):=List.pairwise_map.2 hs;rw[h] at h1;exact List.pairwise_map.1 h1
theorem FF {t:ByteArray} {b:List UInt8} {L:List Pg} {k:Nat} {z z':Pg} (hz:L[k]? = some z) (hi:idP z'=idP z) (hp:tL z'=tL z) (hv:fM t b L=true):fM t b (L.set k z')=true:=by
 obtain⟨v1,v2,v3,v4⟩:=mP.1 hv;refine mP.2 ⟨v1,v2,by rw[List.length_set];exact v3,SE (fun y hy=>?_) (OZ ?_ (uS v4))⟩
 ·rcases List.mem_or_eq_of_mem_set hy with hy | rfl
  ·exact AO v4 y hy
  ·rw[hp];exact AO v4 z (List.mem_of_getElem? hz)
 ·rw[List.map_set,hi];refine List.ext_getElem? fun j=>?_;rw[List.getElem?_set,List.getElem?_map]
  split
  ·rename_i e;subst e
   rw[hz];simp[(List.getElem?_eq_some_iff.1 hz).1]
  ·rfl
def spz (kk:Int):Int:=(kk.tmod 6+6).tmod 6
end Go.Proofs.YtaeobegaodhpcaaGreatDoor
