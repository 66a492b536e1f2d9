/-
  Envelopes: what signers make is valid, and every signature in it verifies (plain).
-/
import Derived.Test.YtaeobegaodhpcaaGreatDoorEnvP
set_option maxRecDepth 100000
set_option maxHeartbeats 8000000
namespace Go.Proofs.YtaeobegaodhpcaaGreatDoor
open Go.RowKit Go.Proofs.YtaeobegaodhpcaaGreatDoor.One
def layW:ByteArray:=⟨#[108,97,121,111,117,116]⟩
def dO:ByteArray:=⟨#[114,101,99,111,114,100]⟩
theorem oV {L:List Pg} {p z:Pg} (h:z ∈ rB L p):z ∈ L ∨ z = p:=by
 unfold rB at h;rcases List.mem_append.1 h with h | h
 ·exact .inl ((List.takeWhile_sublist _).subset h)
 ·rcases List.mem_cons.1 h with h | h
  ·exact .inr h
  ·exact .inl ((List.dropWhile_sublist _).subset h)
theorem CK (L:List Pg) (p:Pg):(rB L p).length = L.length + 1:=by
 unfold rB;have:=congrArg List.length (List.takeWhile_append_dropWhile (p:=fun y=>dls (idP y) (idP p)) (l:=L));rw [List.length_append] at this;rw [List.length_append,List.length_cons];omega
theorem RF {L:List Pg} (hs:∀ z ∈ L,qY z = true) (hq:vY L):vsB L = true:=GF rfl fun j hj=>by
 obtain ⟨x,hx⟩:∃ x,L[j]? = some x:=⟨L[j],List.getElem?_eq_getElem hj⟩;have h1:=hs x (List.mem_of_getElem? hx);unfold rO
 cases j with
 | zero=>simp only [hx,h1,Bool.and_true]
 | succ j =>
   obtain ⟨y,hy⟩:∃ y,L[j]? = some y:=⟨L[j]'(by omega),List.getElem?_eq_getElem _⟩;simp only [hx,hy,h1,tO hq (Nat.lt_succ_self j) hy hx,Bool.and_true]
theorem yY {L:List Pg} (h:vsB L = true):∀ z ∈ L,qY z = true:=fun z hz=>by
 obtain ⟨j,hj⟩:=List.mem_iff_getElem?.1 hz;unfold vsB at h;have h1:=List.all_eq_true.1 h j (List.mem_range.2 (List.getElem?_eq_some_iff.1 hj).1);unfold rO at h1;simp only [hj,Bool.and_eq_true] at h1;exact h1.1
theorem xM {y p:Pg} {t:List Pg} (h:dls (idP y) (idP p) = true):rB (y :: t) p = y :: rB t p:=by unfold rB;simp [List.takeWhile_cons,List.dropWhile_cons,h]
theorem xN {y p:Pg} {t:List Pg} (h:dls (idP y) (idP p) = false):rB (y :: t) p = p :: y :: t:=by unfold rB;simp [List.takeWhile_cons,List.dropWhile_cons,h]
theorem SE {a b:List Int} (h:dls a b = false) (hn:a ≠ b):dls b a = true:=by
 cases hb:dls b a with
 | true=>rfl
 | false=>exact absurd (LJ h hb) hn
theorem KV {y p:Pg} {t:List Pg} (h:yP (y :: t) p = false):idP y ≠ idP p ∧ yP t p = false:=by
 unfold yP at h ⊢;rw [List.any_cons,Bool.or_eq_false_iff] at h;exact ⟨by simpa using h.1,h.2⟩
theorem CJ:∀ {L:List Pg} {p:Pg},vY L → yP L p = false → vY (rB L p)
 | [],p,_,_=>by show vY [p];unfold vY;exact List.pairwise_singleton _ _
 | y :: t, p, hs, hh => by
   have hs':(∀ z ∈ t,dls (idP y) (idP z) = true) ∧ vY t:=List.pairwise_cons.1 hs;have hh':=KV hh
   cases h:dls (idP y) (idP p) with
   | true =>
     rw [xM h];refine List.pairwise_cons.2 ⟨fun z hz=>?_,CJ hs'.2 hh'.2⟩;rcases oV hz with hz | rfl
     ·exact hs'.1 z hz
     ·exact h
   | false =>
     rw [xN h];refine List.pairwise_cons.2 ⟨fun z hz=>?_,hs⟩;rcases List.mem_cons.1 hz with rfl | hz
     ·exact SE h hh'.1
     ·exact jO (SE h hh'.1) (hs'.1 z hz)
theorem lC {t:ByteArray} {b:List UInt8} {L:List Pg}:eU t b L = true ↔ nmB t.data.toList = true ∧ b.length ≤ 32768 ∧ L.length ≤ 8 ∧ vsB L = true:=by
 unfold eU;simp only [Bool.and_eq_true,decide_eq_true_eq]
structure GdP (t:ByteArray) (b:List UInt8) (L:List Pg):Prop where
 v:eU t b L = true
 s:∀ z ∈ L,GH (fF t b) z = true
theorem GdP.nil {b:List UInt8} (hb:b.length ≤ 200):GdP dO b []:=⟨lC.2 ⟨by decide,by omega,Nat.zero_le _,rfl⟩,fun z hz=>by cases hz⟩
theorem NY {h n:Int} (e:sgE h n = 0):∃ k leaf:Nat,h = (k:Int) ∧ n = (leaf:Int) ∧ k ≤ 6 ∧ leaf < 2 ^ k:=by
 unfold sgE at e
 split at e
 ·exact absurd e (by decide)
 ·rename_i h1
  split at e
  ·exact absurd e (by decide)
  ·rename_i h2
   have h3:dW h = true:=by
    cases hb:dW h with
    | true=>rfl
    | false=>exact absurd (Or.inl hb) h1
   have h4:¬ n < 0:=fun e=>h1 (.inr e);unfold dW at h3;have h5:=of_decide_eq_true h3;refine ⟨h.toNat,n.toNat,by omega,by omega,by omega,?_⟩;unfold lvN at h2;omega
theorem NX {t:ByteArray} {b:List UInt8} {L:List Pg} {x:List Int} {h n:Int} (h0:wH t b L x h n = 0):eU t b L = true ∧ sgE h n = 0 ∧ yP L (kU x h n (fF t b)) = false ∧ L.length ≠ 8:=by
 unfold wH at h0
 split at h0
 ·exact absurd h0 (by decide)
 ·rename_i h1
  split at h0
  ·rename_i h2;exact absurd h0 h2
  ·rename_i h2
   split at h0
   ·exact absurd h0 (by decide)
   ·rename_i h3
    split at h0
    ·exact absurd h0 (by decide)
    ·rename_i h4
     exact ⟨by simpa using h1,by simpa using h2,by simpa using h3,h4⟩
theorem YE (t:ByteArray) (b:List UInt8) (L:List Pg) (x:List Int) (h n:Int):(oR t b L x h n).E = wH t b L x h n:=by
 unfold oR;split
 ·rename_i h;exact h.symm
 ·rfl
theorem GdP.ins {t:ByteArray} {b:List UInt8} {L:List Pg} {x:List Int} {h n:Int} (hg:GdP t b L) (h0:wH t b L x h n = 0):GdP t b (rB L (kU x h n (fF t b))):=by
 obtain ⟨hv,hs,hh,h8⟩:=NX h0;obtain ⟨k,leaf,rfl,rfl,hk,hl⟩:=NY hs;obtain ⟨v1,v2,v3,v4⟩:=lC.1 hv;refine ⟨lC.2 ⟨v1,v2,by rw [CK];omega,RF (fun z hz=>?_) (CJ (tH v4) hh)⟩,fun z hz=>?_⟩
 ·rcases oV hz with hz | rfl
  ·exact yY v4 z hz
  ·exact CD hk hl
 ·rcases oV hz with hz | rfl
  ·exact hg.s z hz
  ·exact CC (jJ _ _) hk hl
theorem NR {L M:List Pg} (h:L.map idP = M.map idP) (hs:vY L):vY M:=by
 have h1:(L.map idP).Pairwise (fun a b=>dls a b = true):=List.pairwise_map.2 hs;rw [h] at h1;exact List.pairwise_map.1 h1
theorem DJ {t:ByteArray} {b:List UInt8} {L:List Pg} {k:Nat} {z z':Pg} (hz:L[k]? = some z) (hi:idP z' = idP z) (hp:qY z' = qY z) (hv:eU t b L = true):eU t b (L.set k z') = true:=by
 obtain ⟨v1,v2,v3,v4⟩:=lC.1 hv;refine lC.2 ⟨v1,v2,by rw [List.length_set];exact v3,RF (fun y hy=>?_) (NR ?_ (tH v4))⟩
 ·rcases List.mem_or_eq_of_mem_set hy with hy | rfl
  ·exact yY v4 y hy
  ·rw [hp];exact yY v4 z (List.mem_of_getElem? hz)
 ·rw [List.map_set,hi];refine List.ext_getElem? fun j=>?_;rw [List.getElem?_set,List.getElem?_map]
  split
  ·rename_i e;subst e
   rw [hz];simp [(List.getElem?_eq_some_iff.1 hz).1]
  ·rfl
def spz (kk:Int):Int:=(kk.tmod 6 + 6).tmod 6
end Go.Proofs.YtaeobegaodhpcaaGreatDoor
