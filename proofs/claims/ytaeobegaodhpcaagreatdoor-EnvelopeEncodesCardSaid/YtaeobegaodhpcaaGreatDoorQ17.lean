/-
  The walks of strings.CutSuffix at a line's end and of document.readLines (condition: a string of at most ten million bytes).
-/
import Derived.Test.YtaeobegaodhpcaaGreatDoorZip
import Derived.Test.YtaeobegaodhpcaaGreatDoorQ16
import Derived.Laws.BytesString
set_option maxRecDepth 100000
set_option maxHeartbeats 8000000
namespace Go.Proofs.YtaeobegaodhpcaaGreatDoor
open Go.RowKit
theorem LO (s:ByteArray) (h:0<s.size):(s.extract (s.size-1) s.size).toList=[s[s.size-1]]:=by
 rw[Lib.toList_data,ByteArray.data_extract,Array.toList_extract,List.extract_eq_take_drop,show s.size-(s.size-1)=1 by omega];rw[List.drop_eq_getElem_cons (by simpa using (show s.size-1<s.size by omega))];rfl
def EF (s:ByteArray):Bool:=decide (s.data.toList.getLast? = some 10)
theorem MR (s:ByteArray) (h:0<s.size):EF s=decide (s[s.size-1]=10):=by
 unfold EF;rw[decide_eq_decide,List.getLast?_eq_getElem?,←Lib.size_eq,List.getElem?_eq_getElem (by simpa using (show s.size-1<s.size by omega))];simp;rfl
theorem vQ (s:ByteArray) (w:World) (h:0<s.size) (hs:s.size≤10000000) :
 Calls Tryz.prog 147 #[.string s,.string ⟨#[10]⟩] w fun e w'=>e=.returned (.bool (EF s))∧w=w':=by
 have hd:decide ((s.size:Int) ≥ 1)=true:=by simp;omega
 have q0:(0:Int)≤(s.size:Int)-1:=by omega
 have q1:(s.size:Int)-1≤(s.size:Int):=by omega
 have q2:((s.size:Int)-1).toNat=s.size-1:=by omega
 have hl:=LO s h;have HE:Hid (EF s=(s[s.size-1] == 10)):=by
  show _=_;rw[MR s h,Bool.eq_iff_iff];simp
 go_enter Tryz.func147,Tryz.ntmps147
 go_wp2_with fail;go_ret;exact⟨by rw[HE.out];rfl,rfl⟩
theorem sY (s:ByteArray) (w:World) (h:0<s.size) (hs:s.size≤10000000) :
 Calls Tryz.prog 117 #[.string s,.string ⟨#[10]⟩] w fun e w'=>e=.returned (if EF s=true then .tuple #[.string (s.extract 0 (s.size-1)),.bool true] else .tuple #[.string s,.bool false])∧w=w':=by
 have q0:(0:Int)≤(s.size:Int)-1:=by omega
 have q1:(s.size:Int)-1≤(s.size:Int):=by omega
 have q2:((s.size:Int)-1).toNat=s.size-1:=by omega
 have HP:=zh (fun w=>vQ s w h hs);obtain⟨b,hb⟩:∃ b,EF s=b:=⟨_,rfl⟩;rw[hb] at HP ⊢;clear hb
 cases b
 ·rw[if_neg (by simp)]
  go_enter Tryz.func117,Tryz.ntmps117
  go_wp2_with fail;refine (HP.out _).mono ?_;rintro e w1 ⟨rfl,rfl⟩;go_wp2_with fail;go_ret2;exact⟨rfl,rfl⟩
 ·rw[if_pos rfl]
  go_enter Tryz.func117,Tryz.ntmps117
  go_wp2_with fail;refine (HP.out _).mono ?_;rintro e w1 ⟨rfl,rfl⟩;go_wp2_with fail;go_ret2;exact⟨rfl,rfl⟩
theorem GU (s:ByteArray) (w:World) (h:0<s.size) (hs:s.size≤10000000) :
 Calls Tryz.prog 82 #[.string s,.string ⟨#[10]⟩] w fun e w'=>e=.returned (if EF s=true then .tuple #[.string (s.extract 0 (s.size-1)),.bool true] else .tuple #[.string s,.bool false])∧w=w':=by
 have HP:=zh (fun w=>sY s w h hs);clear h hs;obtain⟨b,hb⟩:∃ b,EF s=b:=⟨_,rfl⟩;rw[hb] at HP ⊢;clear hb
 cases b
 ·rw[if_neg (by simp)] at HP ⊢
  go_enter Tryz.func82,Tryz.ntmps82
  go_wp2_with fail;refine (HP.out _).mono ?_;rintro e w1 ⟨rfl,rfl⟩;go_wp2_with fail;go_ret2;exact⟨rfl,rfl⟩
 ·rw[if_pos rfl] at HP ⊢
  go_enter Tryz.func82,Tryz.ntmps82
  go_wp2_with fail;refine (HP.out _).mono ?_;rintro e w1 ⟨rfl,rfl⟩;go_wp2_with fail;go_ret2;exact⟨rfl,rfl⟩
def vE (s:ByteArray):Option (List (List ByteArray)):=if s.data.toList=[] then some [] else if EF s=true then oG (pcs 10 (s.extract 0 (s.size-1))) else none
theorem vD (s:ByteArray) (w:World) (hs:s.size≤10000000) :
 Calls Tryz.prog 49 #[.string s] w (AG w (vE s)):=by
 by_cases he:s.size=0
 ·have hl:s.data.toList=[]:=List.eq_nil_of_length_eq_zero (by rw[←Lib.size_eq];exact he);have hl2:s.toList=[]:=by rw[Lib.toList_data];exact hl
  have HR:Hid (vE s=some []):=by show _=_;unfold vE;rw[if_pos hl]
  clear hl he
  go_enter Tryz.func49,Tryz.ntmps49
  go_wp2_with fail;go_ret2;unfold AG;rw[HR.out];exact⟨none,0,[],rfl,rfl,World.ownsRow_nil _ _ _ _,(fun q hq=>by cases hq),Below.refl _ _⟩
 ·have hne:s.data.toList≠[]:=fun h=>he (by rw[Lib.size_eq,h];rfl);have hl:(s.toList == [])=false:=by rw[Lib.toList_data,beq_eq_false_iff_ne];exact hne
  have hl2:¬ s.toList=[]:=by simpa using hl
  have HC:=zh (fun w=>GU s w zo hs);have HR:Hid (vE s=if EF s=true then oG (pcs 10 (s.extract 0 (s.size-1))) else none):=by show _=_;unfold vE;rw[if_neg hne]
  obtain⟨b,hb⟩:∃ b,EF s=b:=⟨_,rfl⟩;rw[hb] at HC HR;clear hb hne
  cases b
  ·rw[if_neg (by simp)] at HC HR;clear he
   go_enter Tryz.func49,Tryz.ntmps49
   go_wp2_with fail;refine (HC.out _).mono ?_;rintro e w1 ⟨rfl,rfl⟩;go_wp2_with fail;go_ret2;exact uH HR.out rfl (Below.refl _ _)
  ·rw[if_pos rfl] at HC HR;have htz:(s.extract 0 (s.size-1)).size≤10000000:=by rw[ByteArray.size_extract];omega
   obtain⟨T,hT⟩:∃ T,s.extract 0 (s.size-1)=T:=⟨_,rfl⟩;rw[hT] at HC HR htz;have HS:=zh (fun w=>lA T 10 w htz);have hl3:=rR 10 T;have hc:=vH 10 T;have hz:=qP 10 T;have HV:Hid (∀ w1,w1=w.alloc (.cells ((pcs 10 T).map Value.string).toArray 9)→Calls Tryz.prog 83 #[.slice (some ⟨w.heap.size,0,none⟩) (Lib.countB T (eQ 10)+1) (Lib.countB T (eQ 10)+1),.func (.func 84) #[] #[]] w1 fun e w'=>∃ v b,e=.returned (.tuple #[v,.bool b])∧AG w (oG (pcs 10 T)) e w'):=by
    rintro w1 rfl;have hb:=hF w (.cells ((pcs 10 T).map Value.string).toArray 9);have hnew:=heap_alloc_new w (.cells ((pcs 10 T).map Value.string).toArray 9);refine (GW w.heap.size (Lib.countB T (eQ 10)+1) (pcs 10 T) _ hl3 zo (by simp) (fun j hj=>?_) (fun x hx=>Nat.le_trans (hz x hx) zo)).mono fun e w' h=>?_
    ·rw[cell_of_row _ w.heap.size j _ _ (0,0) hnew];have:j<(pcs 10 T).length:=by omega
     simp[this]
    ·unfold AG at h ⊢
     cases hu:oG (pcs 10 T) with
     | none =>
       rw[hu] at h;obtain⟨h1,h2⟩:=h;exact⟨_,_,h1,h1,hb.trans (h2.mono hb.size)⟩
     | some xs =>
       rw[hu] at h;obtain⟨sp,cap,ls,h0,h1,h2,h3,h4⟩:=h;exact⟨_,_,h1,sp,cap,ls,h0,h1,gF h2 hb.size,(fun q hq=>gF (h3 q hq) hb.size),hb.trans (h4.mono hb.size)⟩
   clear hl3 hc hz hs hT htz he
   go_enter Tryz.func49,Tryz.ntmps49
   go_wp2_with fail;refine (HC.out _).mono ?_;rintro e w1 ⟨rfl,rfl⟩;go_wp2_with fail;refine (HS.out _).mono ?_;rintro e w1 ⟨rfl,hw⟩;have HW:=zh hw;clear hw;go_wp2_with fail;refine (HV.out w1 HW.out).mono ?_;rintro e w2 ⟨v,b,rfl,hr⟩;have HR2:=zh hr;clear hr;go_wp2_with fail;go_ret2;rw[HR.out];exact HR2.out
structure BSrc (w:World) (B:Nat) (sp:Option Addr) (n cap:Nat) (l:List UInt8):Prop where
 len:l.length=n
 cells:0<n→∃ bb off,sp=some ⟨bb,off,none⟩∧bb<B∧n≤cap∧∀ j (hj:j<l.length),w.cell? ⟨bb,off+j,none⟩=some (.int .u8 (l[j].toNat:Int))
theorem BSrc.below {w w':World} {B B':Nat} {sp:Option Addr} {n cap:Nat} {l:List UInt8} (h:BSrc w B sp n cap l) (hb:Below B' w w') (hB:B≤B'):BSrc w' B sp n cap l :=
 ⟨h.len,fun hn=>by
  obtain⟨bb,off,e,hlt,hc,hcell⟩:=h.cells hn;exact⟨bb,off,e,hlt,hc,fun j hj=>(hb.cell (p:=⟨bb,off+j,none⟩) (by show bb<B';omega)).trans (hcell j hj)⟩⟩
theorem cU {w:World} {B:Nat} {sp:Option Addr} {n cap c2:Nat} {l:List UInt8} (h:BSrc w B sp n cap l):(convert 22 9 (.slice sp n c2)).run Tryz.prog w=.ok (.string ⟨l.toArray⟩) w:=by
 by_cases hn:n=0
 ·have hl:l=[]:=List.eq_nil_of_length_eq_zero (by rw[h.len];exact hn);subst hn hl
  cases sp with
  | none =>
    rw[run_convert_bytes_string w 22 9 5 none 0 c2 Tryz.underlying22 Tryz.underlying5 Tryz.underlying9];rfl
  | some ad=>exact run_convert_bytes_back w 22 9 5 ad c2 [] Tryz.underlying22 Tryz.underlying5 Tryz.underlying9 (fun j hj=>absurd hj (by simp))
 ·obtain⟨bb,off,rfl,_,_,hc⟩:=h.cells zo;have:=run_convert_bytes_back w 22 9 5 ⟨bb,off,none⟩ c2 l Tryz.underlying22 Tryz.underlying5 Tryz.underlying9 (fun j hj=>by rw[Addr.add_mid];exact hc j hj)
  rwa [h.len] at this
theorem tU {w:World} {base e:Nat} {sp:Option Addr} {n cap:Nat} {xs:List Value} (h:w.ownsRow base e 1 (.slice sp n cap) n xs):n≤maxLen:=by
 obtain⟨_,⟨_,h2⟩ | ⟨g,c,u,_,_,_,h3,h4,_⟩⟩:=h
 ·subst h2;exact Nat.zero_le _
 ·exact Nat.le_trans h3 h4
theorem OW {w:World} {base:Nat} {q:Ln} (h:kU w base q):StrsIn w w.heap.size q.sp q.n q.l:=by
 unfold kU at h;obtain⟨h0,h1⟩:=h;rw[List.length_map,Nat.mul_one] at h0;refine⟨h0,fun hn=>?_⟩;rcases h1 with ⟨_,h2⟩ | ⟨g,c,u,e,_,hg,_,_,hs,ht⟩
 ·omega
 ·injection e with e1 e2 e3
  refine⟨g,0,e1,(Array.getElem?_eq_some_iff.1 hg).1,fun j hj=>?_⟩;rw[cell_of_row w g (0+j) u _ _ hg,Nat.zero_add];have h5:(u.toList.take (q.n*1))[j]? = some (.string q.l[j]):=by rw[ht];simp[hj]
  rw[List.getElem?_take,if_pos zo] at h5;simpa using h5
theorem iS {w:World} {base:Nat} {sp:Option Addr} {cap:Nat} {ls:List Ln} (h:w.ownsRow base 55 1 (.slice sp ls.length cap) ls.length (ls.map Ln.val)) (he:∀ q ∈ ls,kU w base q):LinesIn w w.heap.size sp ls.length ls:=by
 refine⟨rfl,fun hn=>?_,fun q hq=>OW (he q hq)⟩;obtain⟨_,⟨_,h2⟩ | ⟨g,c,u,e,_,hg,_,_,hs,ht⟩⟩:=h
 ·omega
 ·injection e with e1 e2 e3
  refine⟨g,0,e1,(Array.getElem?_eq_some_iff.1 hg).1,fun j hj=>?_⟩;rw[cell_of_row w g (0+j) u _ _ hg,Nat.zero_add];have h5:(u.toList.take (ls.length*1))[j]? = some ls[j].val:=by rw[ht];simp[hj]
  rw[List.getElem?_take,if_pos zo] at h5;simpa using h5
def qJ (S:ByteArray):Nat × List (List ByteArray):=if 262144<S.size then (3,[]) else match vE S with
 | none=>(2,[])
 | some L=>if chk L=0 then (0,L) else (2,[])
def OB (w:World) (r:Nat × List (List ByteArray)) (e:Ending) (w':World):Prop :=
 ∃ (sp:Option Addr) (cap:Nat) (ls:List Ln),aD ls=r.2∧e=.returned (.tuple #[.slice sp ls.length cap,.int .i64 (r.1:Int)])∧w'.ownsRow w.heap.size 55 1 (.slice sp ls.length cap) ls.length (ls.map Ln.val)∧(∀ q ∈ ls,kU w' w.heap.size q)∧Below w.heap.size w w'
theorem fK {w:World} {r:Nat × List (List ByteArray)} {c:Nat} {e:Ending} {w':World} (h:r=(c,[])) (he:e=.returned (.tuple #[.slice none 0 0,.int .i64 (c:Int)])) (hb:Below w.heap.size w w'):OB w r e w':=by
 subst h;exact⟨none,0,[],rfl,he,World.ownsRow_nil _ _ _ _,(fun q hq=>by cases hq),hb⟩
theorem II (sp:Option Addr) (n cap:Nat) (l:List UInt8) (w:World) (hs:BSrc w w.heap.size sp n cap l) :
 Calls Tryz.prog 24 #[.slice sp n cap] w (OB w (qJ ⟨l.toArray⟩)):=by
 have hlen:(⟨l.toArray⟩:ByteArray).size=n:=by rw[Lib.size_eq];exact hs.len
 have hcv:=cU (c2:=cap) hs;obtain⟨S,hS⟩:∃ S:ByteArray,⟨l.toArray⟩=S:=⟨_,rfl⟩;rw[hS] at hlen hcv ⊢;clear hS hs;by_cases hbig:262144<n
 ·have hd:decide ((n:Int)>262144)=true:=by simp;omega
  have HR:Hid (qJ S=(3,[])):=by show _=_;unfold qJ;rw[if_pos zo]
  clear hbig hlen hcv
  go_enter Tryz.func24,Tryz.ntmps24
  go_wp2_with fail;go_ret2;exact fK HR.out rfl (Below.refl _ _)
 ·have hd:decide ((n:Int)>262144)=false:=by simp;omega
  have HRL:=zh (vD S w zo);have HR0:Hid (qJ S=match vE S with | none=>(2,[]) | some L=>if chk L=0 then (0,L) else (2,[])):=by show _=_;unfold qJ;rw[if_neg zo]
  clear hbig hlen
  cases hr:vE S with
  | none =>
    rw[hr] at HRL HR0;have HR:Hid (qJ S=(2,[])):=HR0.out;have HC:Hid (Calls Tryz.prog 49 #[.string S] w fun e w'=>e=.returned (.tuple #[.slice none 0 0,.bool false])∧Below w.heap.size w w'):=HRL.out;clear HRL HR0 hr
    go_enter Tryz.func24,Tryz.ntmps24
    go_wp2_with fail;refine HC.out.mono ?_;rintro e w1 ⟨rfl,b1⟩;go_wp2_with fail;go_ret2;exact fK HR.out rfl b1
  | some L =>
    rw[hr] at HRL HR0;have HR:Hid (qJ S=if chk L=0 then (0,L) else (2,[])):=HR0.out;have HC:Hid (Calls Tryz.prog 49 #[.string S] w fun e w'=>∃ (sp:Option Addr) (cap:Nat) (ls:List Ln),aD ls=L∧e=.returned (.tuple #[.slice sp ls.length cap,.bool true])∧w'.ownsRow w.heap.size 55 1 (.slice sp ls.length cap) ls.length (ls.map Ln.val)∧(∀ q ∈ ls,kU w' w.heap.size q)∧Below w.heap.size w w'):=HRL.out;clear HRL HR0 hr;by_cases hk:chk L=0
    ·rw[if_pos hk] at HR
     go_enter Tryz.func24,Tryz.ntmps24
     go_wp2_with fail;refine HC.out.mono ?_;rintro e w1 ⟨sp1,cap1,ls,hwo,rfl,o1,he1,b1⟩;have hck:=iI sp1 ls.length cap1 ls w1 (iS o1 he1) (tU o1) (fun q hq=>tU (he1 q hq));rw[hwo,hk] at hck;have HCK:=zh hck;have HO1:=zh o1;have HE1:=zh he1;have HWO:=zh hwo;have HB1:=zh b1;clear hck o1 he1 hwo b1 hk;go_wp2_with fail;refine HCK.out.mono ?_;rintro e w2 ⟨rfl,rfl⟩;go_wp2_with fail;go_ret2;rw[HR.out];exact⟨sp1,cap1,ls,HWO.out,rfl,HO1.out,HE1.out,HB1.out⟩
    ·rw[if_neg hk] at HR;obtain⟨c,hc⟩:∃ c,chk L=c:=⟨_,rfl⟩;rw[hc] at hk;have hne:((c:Int) != 0)=true:=by rw[bne_iff_ne];omega
     have HCE:=zh hc;clear hc
     go_enter Tryz.func24,Tryz.ntmps24
     go_wp2_with fail;refine HC.out.mono ?_;rintro e w1 ⟨sp1,cap1,ls,hwo,rfl,o1,he1,b1⟩;have hck:=iI sp1 ls.length cap1 ls w1 (iS o1 he1) (tU o1) (fun q hq=>tU (he1 q hq));rw[hwo,HCE.out] at hck;have HCK:=zh hck;have HB1:=zh b1;clear hck o1 he1 hwo b1;go_wp2_with fail;refine HCK.out.mono ?_;rintro e w2 ⟨rfl,rfl⟩;go_wp2_with fail;go_ret2;exact fK HR.out rfl HB1.out
end Go.Proofs.YtaeobegaodhpcaaGreatDoor
