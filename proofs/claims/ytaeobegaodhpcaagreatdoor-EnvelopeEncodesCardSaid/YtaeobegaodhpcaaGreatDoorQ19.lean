/-
  The walk of the reference's Encode: it answers as document.Encode does (condition: the lines read as lists of words).
-/
import Derived.Test.YtaeobegaodhpcaaGreatDoorZip
import Derived.Test.YtaeobegaodhpcaaGreatDoorQ18
set_option maxRecDepth 100000
set_option maxHeartbeats 8000000
namespace Go.Proofs.YtaeobegaodhpcaaGreatDoor
open Go.RowKit
def jn (l:List ByteArray) (j:Nat):List UInt8:=(body (l.take j)).dropLast
theorem BQ (l:List ByteArray):jn l 0=[]:=rfl
theorem QJ {l:List ByteArray} (h:0<l.length):jn l 1=dK l[0].data.toList:=by
 unfold jn;rw[nV l 0 h];simp[body]
theorem VP {l:List ByteArray} {j:Nat} (h0:j≠0) (hj:j<l.length):jn l (j+1)=(jn l j++[32])++dK l[j].data.toList:=by
 have hp:0<(l.take j).length:=by rw[List.length_take];omega
 unfold jn;rw[nV l j hj,←AC hp,←List.append_assoc,List.dropLast_concat]
theorem WV {l:List ByteArray} (hs:∀ s ∈ l,s.size≤32768):(body l).length≤98306*l.length:=by
 induction l with
 | nil=>simp[body]
 | cons a t ih =>
   have h1:=ih (fun s hs'=>hs s (List.mem_cons_of_mem _ hs'));have h2:=hs a (List.mem_cons_self ..);have h3:=qM a.data.toList;rw[←Lib.size_eq] at h3;unfold body at h1 ⊢;simp only[List.flatMap_cons,List.length_append,List.length_cons,List.length_nil];omega
theorem jn_le (l:List ByteArray) (j:Nat) (hs:∀ s ∈ l.take j,s.size≤32768):(jn l j).length≤98306*j:=by
 have h1:=WV hs;have h2:(l.take j).length≤j:=List.length_take_le _ _;unfold jn;rw[List.length_dropLast];omega
theorem VG {l:List ByteArray} (h:l.any lng=false):∀ s ∈ l,s.size≤32768:=fun s hs=>by
 rcases Nat.lt_or_ge 32768 s.size with hlt | hge
 ·have:l.any lng=true:=List.any_eq_true.2 ⟨s,hs,by unfold lng;exact decide_eq_true hlt⟩;rw[h] at this;cases this
 ·exact hge
theorem QG {l:List ByteArray}:qG l=jn l l.length++[10]:=by
 unfold qG jn;rw[List.take_of_length_le zl]
theorem lK {wl:List (List ByteArray)} {r:Nat} (h:wl.length≤1000) (hb:bH wl=r):chk wl=r:=by unfold chk;rw[if_neg zo,hb]
theorem vS {wl:List (List ByteArray)} {k:Nat} {l:List ByteArray} (hk:wl[k]? = some l) (h:bH (wl.take k)=0) :
 (bV l=0→bH (wl.take (k+1))=0)∧(bV l≠0→bH wl=bV l):=by
 obtain⟨hlt,rfl⟩:=List.getElem?_eq_some_iff.1 hk;exact nQ wl k hlt h
theorem rW {w w':World} {row:Option Nat} (h:Below w.heap.size w w'):w.grownBy w' row:=⟨h.os,h.tape,h.output,h.size,fun k hk _=>h.block k hk⟩
theorem yO {w w':World} {base e size:Nat} {v:Value} {n:Nat} {xs:List Value} (h:w.ownsRow base e size v n xs) (hb:Below w.heap.size w w'):w'.ownsRow base e size v n xs :=
 h.kept (row:=none) (rW hb) (by cases hv:v.ownBlock <;> simp)
theorem jE (pa:Option Addr) (np ncap:Nat) (ls:List Ln) (w:World) (hp:LinesIn w w.heap.size pa np ls) (hmax:np≤9223372036854775807) (hmax2:∀ q ∈ ls,q.n≤9223372036854775807) :
 Calls Tryz.prog 23 #[.slice pa np ncap] w (TV w (aD ls)):=by
 have HP:=zh hp;have HM:=zh hmax2;clear hp hmax2;obtain⟨i0,hi0,hz0,hz1,hz2⟩:=info_parts Tryz.info5;have HI0:=zh hi0;have HZ0:=zh hz0;have HZ1:=zh hz1;have HZ2:=zh hz2;clear hi0 hz0 hz1 hz2;have qL:=zh HP.out.len;have HL2:=zh (bD ls);have HGET:=zh (wordsOf_get? ls);generalize hwl:aD ls=wl at *;clear hwl;by_cases hbig:1000<np
 ·have HE:Hid (enc wl=(3,[])):=by
   have hc:chk wl=3:=by unfold chk;rw[if_pos (by rw[HL2.out,qL.out];exact hbig)]
   show _=_;rw[oX (by rw[hc];decide),hc]
  go_enter Tryz.func23,Tryz.ntmps23
  go_wp2_with fail;go_ret2;exact⟨.slice none 0 0,by rw[HE.out];rfl,by rw[HE.out];exact World.ownsRow_nil _ _ _ _,Below.refl _ _⟩
 ·have HW1:Hid (wl.length≤1000):=by show _≤_;rw[HL2.out,qL.out];omega
  go_enter Tryz.func23,Tryz.ntmps23
  go_wp2_with fail
  go_loopg [4,5] np (fun g b i wx=>∃ k:Nat,k+g=np∧i=.int .i64 k∧Hid (bH (wl.take k)=0)∧∃ sp cap,b=.slice sp (gK (wl.take k)).length cap∧Hid (wx.ownsRow w.heap.size 5 1 (.slice sp (gK (wl.take k)).length cap) (gK (wl.take k)).length (Lib.byteCells (gK (wl.take k))))∧(gK (wl.take k)).length≤16777216*k∧Below w.heap.size w wx)
  case atStart=>exact⟨0,by omega,rfl,by show _=_;simp[bH],none,0,by simp[gK],by show World.ownsRow _ _ _ _ _ _ _;simp[gK];exact World.ownsRow_nil _ _ _ _,by simp[gK],Below.refl _ _⟩
  case round =>
   obtain⟨k,hg,rfl,HB,sp,cap,rfl,hown,hle,hbe⟩:=hrel;have hbs:=hbe.size;by_cases hlt:k<np
   ·have hk2:k<ls.length:=by have:=qL.out;omega
    obtain⟨pb,po,rfl,hpb,hcell⟩:=HP.out.cells zo;have HC:Hid (w.cell? ⟨pb,po+k,none⟩=some (.slice ls[k].sp ls[k].n ls[k].cap)):=hcell k hk2;have HE:=zh (HP.out.each _ (List.getElem_mem hk2));have HLK:=zh (HGET.out k hk2);have hmx:=HM.out _ (List.getElem_mem hk2);clear hcell;generalize ls[k].sp=lsp at *;generalize ls[k].n=n at *;generalize ls[k].cap=lcap at *;generalize ls[k].l=l at *;obtain rfl:=HE.out.len;have HNX:=zh (zW HLK.out);have HST:=zh (vS HLK.out HB.out);have ck:wr.cell? ⟨pb,po+k,none⟩=some (.slice lsp l.length lcap):=(hbe.cell (p:=⟨pb,po+k,none⟩) hpb).trans HC.out;by_cases h0:l.length=0
    ·have h0b:((l.length:Int) == 0)=true:=beq_iff_eq.2 zo;have HEN:Hid (enc wl=(1,[])):=by
      have hc:=lK HW1.out (HST.out.2 (by rw[kQ h0];decide));rw[kQ h0] at hc;show _=_;rw[oX (by rw[hc];decide),hc]
     have H0:=zh h0;clear h0;generalize gK (wl.take k)=X at *;go_wp2_with fail;go_ret2;exact⟨.slice none 0 0,by rw[HEN.out];rfl,by rw[HEN.out];exact World.ownsRow_nil _ _ _ _,hbe⟩
    ·have h0b:((l.length:Int) == 0)=false:=beq_eq_false_iff_ne.2 zo;by_cases h1:120<l.length
     ·have HEN:Hid (enc wl=(3,[])):=by
       have hc:=lK HW1.out (HST.out.2 (by rw[kR h1];decide));rw[kR h1] at hc;show _=_;rw[oX (by rw[hc];decide),hc]
      generalize gK (wl.take k)=X at *;clear h0;go_wp2_with fail;go_ret2;exact⟨.slice none 0 0,by rw[HEN.out];rfl,by rw[HEN.out];exact World.ownsRow_nil _ _ _ _,hbe⟩
     ·have hLJ:=QG (l:=l);have HLJ:=zh hLJ;clear hLJ;generalize gK (wl.take k)=X at *;go_wp2_with fail
      go_loopg [4,6] l.length (fun g b i wy=>∃ j:Nat,j+g=l.length∧i=.int .i64 j∧Hid ((l.take j).any lng=false)∧∃ sp cap,b=.slice sp (X++jn l j).length cap∧Hid (wy.ownsRow w.heap.size 5 1 (.slice sp (X++jn l j).length cap) (X++jn l j).length (Lib.byteCells (X++jn l j)))∧Below w.heap.size w wy)
      case atStart=>exact⟨0,by omega,rfl,by show _=_;simp,sp,cap,by simp[BQ],by show World.ownsRow _ _ _ _ _ _ _;simpa [BQ] using hown.out,hbe⟩
      case round =>
       clear hown hbe ck hbs;obtain⟨j,hg2,rfl,HA,sp2,cap2,rfl,hown,hbe⟩:=hrel;have hbs:=hbe.size;have ck:wr.cell? ⟨pb,po+k,none⟩=some (.slice lsp l.length lcap):=(hbe.cell (p:=⟨pb,po+k,none⟩) hpb).trans HC.out;have hjl:=jn_le l j (VG HA.out);by_cases hj:j<l.length
       ·obtain⟨sb,so,rfl,hsb,hsc⟩:=HE.out.cells zo;have HCW:Hid (w.cell? ⟨sb,so+j,none⟩=some (.string l[j])):=hsc j hj;have cw:wr.cell? ⟨sb,so+j,none⟩=some (.string l[j]):=(hbe.cell (p:=⟨sb,so+j,none⟩) hsb).trans HCW.out;clear hsc;by_cases hw:32768<(l[j]).size
        ·have HEN:Hid (enc wl=(3,[])):=by
          have hb:=pU h0 (TG l j hj (by unfold lng;exact decide_eq_true hw));have hc:=lK HW1.out (HST.out.2 (by rw[hb];decide));rw[hb] at hc;show _=_;rw[oX (by rw[hc];decide),hc]
         generalize l[j]=s at *;have hd1:decide ((s.size:Int)>32768)=true:=decide_eq_true zo;have hd2:decide (32768<(s.size:Int))=true:=decide_eq_true zo;clear h0 hjl;go_wp2_with fail;go_ret2;exact⟨.slice none 0 0,by rw[HEN.out];rfl,by rw[HEN.out];exact World.ownsRow_nil _ _ _ _,hbe⟩
        ·have HA2:=zh (nW l j hj HA.out (by unfold lng;exact decide_eq_false hw));by_cases hj0:j=0
         ·have HJ:Hid (X++jn l (j+1)=(X++jn l j)++dK l[j].data.toList):=by
           subst hj0;show _=_;rw[QJ hj,BQ,List.append_nil]
          have hj0':¬ ((0:Int)<(j:Int)):=by omega
          generalize l[j]=s at *;have hwl:=qM s.data.toList;rw[←Lib.size_eq] at hwl;have hy:(X++jn l j).length≤17000000000:=by rw[List.length_append];omega
          have HRW:=fun w=>zh (rP s w zo);generalize hS:dK s.data.toList=S at *;have HS:=zh (show (⟨S.toArray⟩:ByteArray).size=S.length from rfl);have HSD:=zh (show Lib.strCells ⟨S.toArray⟩=Lib.byteCells S from rfl);generalize (⟨S.toArray⟩:ByteArray)=sS at *;have hsz:sS.size≤98305:=by rw[HS.out];omega
          have hd1:decide ((s.size:Int)>32768)=false:=decide_eq_false zo;have hd2:decide (32768<(s.size:Int))=false:=decide_eq_false zo;generalize X++jn l j=Y at *;clear h0 hjl hS hj0
          go_wp2_with (first
           | (go_at_call 48;refine (HRW _).out.mono ?_;rintro e w4 ⟨rfl,hbe4⟩;have hbs4:=hbe4.size;have hown4:=yO hown.out hbe4)
           | (at_builtin;refine Lib.wpList_append_own_string _ rfl (.tmp 51) (.tmp 59) 22 9 rfl w.heap.size 5 i0 Tryz.underlying22 Tryz.underlying9 HI0.out HZ0.out HZ1.out HZ2.out _ _ _ rfl hown4 _ rfl (by unfold maxLen;omega) zo zo ?_;intro v5 w5 hown5 hg5 _;obtain⟨sp5,cap5,rfl⟩:=kJ hown5;have HO5:=zh hown5;clear hown5))
          go_roundg (l.length-(j+1))
          case measure=>omega
          case rel =>
           refine⟨j+1,by omega,by go_num,HA2.out,sp5,cap5,?_,?_,(hbe.trans (hbe4.mono hbs)).grown hg5 zo (dG hown4)⟩
           ·rw[HJ.out,List.length_append,←HS.out]
           ·rw[HJ.out];have:=HO5.out;rw[HSD.out,←Lib.byteCells_append] at this;show World.ownsRow _ _ _ _ _ _ _;rw[List.length_append,←HS.out];exact this
         ·have HJ:Hid (X++jn l (j+1)=((X++jn l j)++[32])++dK l[j].data.toList):=by show _=_;rw[VP hj0 hj];simp
          have hj0':(0:Int)<(j:Int):=by omega
          generalize l[j]=s at *;have hwl:=qM s.data.toList;rw[←Lib.size_eq] at hwl;have hy:(X++jn l j).length≤17000000000:=by rw[List.length_append];omega
          have HRW:=fun w=>zh (rP s w zo);generalize hS:dK s.data.toList=S at *;have HS:=zh (show (⟨S.toArray⟩:ByteArray).size=S.length from rfl);have HSD:=zh (show Lib.strCells ⟨S.toArray⟩=Lib.byteCells S from rfl);generalize (⟨S.toArray⟩:ByteArray)=sS at *;have hsz:sS.size≤98305:=by rw[HS.out];omega
          have hd1:decide ((s.size:Int)>32768)=false:=decide_eq_false zo;have hd2:decide (32768<(s.size:Int))=false:=decide_eq_false zo;generalize X++jn l j=Y at *;clear h0 hjl hS hj0
          go_wp2_with (first
           | (at_builtin;refine wpList_append_own _ rfl (.tmp 48) (.tmp 49) 22 rfl w.heap.size 5 i0 (.int .u8 0) 1 1 Tryz.underlying22 HI0.out HZ0.out HZ1.out HZ2.out rfl (by decide) _ _ _ rfl (hown.out.alloc _) ⟨wr.heap.size,0,none⟩ 1 1 [.int .u8 32] rfl rfl (cell_one_new _ _ _) (by intro u hu;simp at hu;subst hu;rfl) (by unfold maxLen;omega) zo (by simp;omega) ?_;intro v3 w3 hown3 hg3 _;have HO3:=zh hown3;clear hown3;have hbe3:=(hbe.alloc hbs _).grown hg3 (by simp;omega) (dG hown.out);have hbs3:=hbe3.size;have ck3:=(hbe3.cell (p:=⟨pb,po+k,none⟩) hpb).trans HC.out;have cw3:=(hbe3.cell (p:=⟨sb,so+j,none⟩) hsb).trans HCW.out)
           | (go_at_call 48;refine (HRW _).out.mono ?_;rintro e w4 ⟨rfl,hbe4⟩;have hbs4:=hbe4.size;have hown4:=yO HO3.out hbe4)
           | (at_builtin;refine Lib.wpList_append_own_string _ rfl (.tmp 51) (.tmp 59) 22 9 rfl w.heap.size 5 i0 Tryz.underlying22 Tryz.underlying9 HI0.out HZ0.out HZ1.out HZ2.out _ _ _ rfl hown4 _ rfl (by unfold maxLen;omega) zo zo ?_;intro v5 w5 hown5 hg5 _;obtain⟨sp5,cap5,rfl⟩:=kJ hown5;have HO5:=zh hown5;clear hown5))
          go_roundg (l.length-(j+1))
          case measure=>omega
          case rel =>
           refine⟨j+1,by omega,by go_num,HA2.out,sp5,cap5,?_,?_,(hbe3.trans (hbe4.mono hbs3)).grown hg5 zo (dG hown4)⟩
           ·rw[HJ.out,List.length_append,List.length_append,←HS.out];rfl
           ·rw[HJ.out];have:=HO5.out;rw[HSD.out] at this;show World.ownsRow _ _ _ _ _ _ _;rw[List.length_append,List.length_append,←HS.out,Lib.byteCells_append,Lib.byteCells_append];exact this
       ·obtain rfl:j=l.length:=by omega
        have HFB:Hid (bH (wl.take (k+1))=0):=by
         have ha:=HA.out;rw[List.take_of_length_le zl] at ha;exact HST.out.1 (pV h0 h1 ha)
        have hy:(X++jn l l.length).length≤17000000000:=by rw[List.length_append];omega
        have hyl:(X++jn l l.length).length+1≤16777216*(k+1):=by rw[List.length_append];omega
        have HEX:Hid (gK (wl.take (k+1))=(X++jn l l.length)++[10]):=by show _=_;rw[HNX.out,HLJ.out,List.append_assoc]
        generalize X++jn l l.length=Y at *;clear h0 hjl
        go_wp2_with (at_builtin;refine wpList_append_own _ rfl (.tmp 61) (.tmp 62) 22 rfl w.heap.size 5 i0 (.int .u8 0) 1 1 Tryz.underlying22 HI0.out HZ0.out HZ1.out HZ2.out rfl (by decide) _ _ _ rfl (hown.out.alloc _) ⟨wr.heap.size,0,none⟩ 1 1 [.int .u8 10] rfl rfl (cell_one_new _ _ _) (by intro u hu;simp at hu;subst hu;rfl) (by unfold maxLen;omega) zo (by simp;omega) ?_;intro v3 w3 hown3 hg3 _;obtain⟨sp3,cap3,rfl⟩:=kJ hown3;have HO3:=zh hown3;clear hown3)
        go_roundg (np-(k+1))
        case measure=>omega
        case rel =>
         refine⟨k+1,by omega,by go_num,HFB.out,sp3,cap3,?_,?_,?_,(hbe.alloc hbs _).grown hg3 (by simp;omega) (dG hown.out)⟩
         ·rw[HEX.out];simp
         ·rw[HEX.out];have:=HO3.out;show World.ownsRow _ _ _ _ _ _ _;simpa [Lib.byteCells_append,Lib.byteCells] using this
         ·rw[HEX.out,List.length_append];exact hyl
   ·obtain rfl:k=np:=by omega
    have hall:wl.take k=wl:=List.take_of_length_le (by rw[HL2.out,qL.out];exact Nat.le_refl _);have HCK:Hid (chk wl=0):=lK HW1.out (by rw[←hall];exact HB.out);rw[hall] at hown hle;rw[hall];clear hall HB;by_cases hlong:262144<(gK wl).length
    ·have HE:=zh (vU HCK.out hlong);have HHL:=zh hlong;obtain⟨X,hX⟩:∃ X,gK wl=X:=⟨_,rfl⟩;rw[hX] at hown hle hlong;rw[hX];clear hX;have hd1:decide ((X.length:Int)>262144)=true:=decide_eq_true zo;have hd2:decide (262144<(X.length:Int))=true:=decide_eq_true zo;clear hlong hle;go_wp2_with fail;go_ret2;exact⟨.slice none 0 0,by rw[HE.out];rfl,by rw[HE.out];exact World.ownsRow_nil _ _ _ _,hbe⟩
    ·have HE:=zh (vV HCK.out hlong);obtain⟨X,hX⟩:∃ X,gK wl=X:=⟨_,rfl⟩;rw[hX] at hown hle hlong HE;rw[hX];clear hX;have hd1:decide ((X.length:Int)>262144)=false:=decide_eq_false zo;have hd2:decide (262144<(X.length:Int))=false:=decide_eq_false zo;clear hlong hle;go_wp2_with fail;go_ret2;exact⟨_,by rw[HE.out];rfl,by rw[HE.out];exact hown,hbe⟩
end Go.Proofs.YtaeobegaodhpcaaGreatDoor
namespace Go.Proofs.YtaeobegaodhpcaaGreatDoor
open Go.RowKit Go.Proofs.YtaeobegaodhpcaaGreatDoor.One
theorem BSrc.more {w:World} {B B':Nat} {sp:Option Addr} {n cap:Nat} {l:List UInt8} (h:BSrc w B sp n cap l) (hB:B≤B'):BSrc w B' sp n cap l:=⟨h.len,fun hn=>by
 obtain⟨bb,off,e,hlt,hc,hcell⟩:=h.cells hn;exact⟨bb,off,e,by omega,hc,hcell⟩⟩
def ub (l:List UInt8):List Int:=l.map fun u=>(u.toNat:Int)
theorem uX (l:List UInt8):(ub l).map (Value.int .u8)=Lib.byteCells l:=by
 unfold ub Lib.byteCells;rw[List.map_map];rfl
theorem eU (l:List UInt8):(ub l).length=l.length:=by simp[ub]
theorem JI (l:List UInt8):Byt (ub l):=by
 intro x hx;obtain⟨u,_,rfl⟩:=List.mem_map.1 hx;have:=u.toNat_lt;omega
def mN:ByteArray:=⟨#[101,110,118,101,108,111,112,101]⟩
def kA (t:ByteArray) (b:List UInt8):List (List ByteArray):=[[mN,t,⟨b.toArray⟩]]
def fO (t:ByteArray) (b:List UInt8):List Int:=if (enc (kA t b)).1=0 then aP (sha (ub (enc (kA t b)).2)).list else zed
theorem kK (t:ByteArray) (b:List UInt8):D32 (fO t b):=by
 unfold fO;split
 ·exact⟨by simp[aO,St.list_length],fun x hx=>lJ _ x hx⟩
 ·exact D32.zed
theorem TC (ls:List (List ByteArray)):(enc ls).2.length≤262144:=by
 by_cases h:chk ls=0
 ·by_cases h2:262144<(gK ls).length
  ·rw[vU h h2];simp
  ·rw[vV h h2];simp;omega
 ·rw[oX h];simp
theorem tI {w:World} {g:Nat} {x y z:ByteArray} (h:w.heap[g]? = some (.cells #[.string x,.string y,.string z] 9 (0,0))):StrsIn w w.heap.size (some ⟨g,0,none⟩) 3 [x,y,z] :=
 ⟨rfl,fun _=>⟨g,0,rfl,(Array.getElem?_eq_some_iff.1 h).1,fun j hj=>by
  rw[cell_of_row w g _ _ _ _ h];rcases j with _ | _ | _ | j
  ·rfl
  ·rfl
  ·rfl
  ·exact absurd hj (by show ¬ _<3;omega)⟩⟩
theorem yZ {w:World} {g g2:Nat} {L:List ByteArray} {n:Nat} (h2:w.heap[g2]? = some (.cells #[.slice (some ⟨g,0,none⟩) n n] 55 (0,0))) (h:StrsIn w w.heap.size (some ⟨g,0,none⟩) n L) :
 LinesIn w w.heap.size (some ⟨g2,0,none⟩) 1 [⟨some ⟨g,0,none⟩,n,n,L⟩] :=
 ⟨rfl,fun _=>⟨g2,0,rfl,(Array.getElem?_eq_some_iff.1 h2).1,fun j hj=>by
  rw[cell_of_row w g2 _ _ _ _ h2];rcases j with _ | j
  ·rfl
  ·exact absurd hj (by show ¬ _<1;omega)⟩,fun q hq=>by rw[List.mem_singleton.1 hq];exact h⟩
theorem pS (t:ByteArray) (sp:Option Addr) (n cap:Nat) (b:List UInt8) (w:World) (hp:BSrc w w.heap.size sp n cap b) :
 Calls Tryz.prog 16 #[.string t,.slice sp n cap] w fun e w'=>e=.returned (.slice (some ⟨w.heap.size,0,none⟩) 3 3)∧Hid (w'.heap[w.heap.size]? = some (.cells #[.string mN,.string t,.string ⟨b.toArray⟩] 9 (0,0)))∧Below w.heap.size w w':=by
 have hc:=cU (c2:=cap) hp;have HP:=zh hp;clear hp;have HN:=zh (heap_alloc_new w (.cells #[.string mN,.string t,.string ⟨b.toArray⟩] 9))
 go_enter Tryz.func16,Tryz.ntmps16
 go_wp2_with fail;go_ret;exact⟨rfl,HN.out,(Below.refl _ _).alloc zl _⟩
theorem rT (t:ByteArray) (sp:Option Addr) (n cap:Nat) (b:List UInt8) (w:World) (hp:BSrc w w.heap.size sp n cap b) (hk:KayIn w) (hk0:4<w.heap.size) :
 Calls Tryz.prog 58 #[.string t,.slice sp n cap] w fun e w'=>e=.returned (.agg (dgA (fO t b)))∧Below w.heap.size w w':=by
 have HP:=zh hp;clear hp;have HK:=zh hk;clear hk;have HMO:=zh (kK t b);have HMI:Hid ((Tryz.prog.info? 77).map (·.size)=some (dgA (fO t b)).size):=by show _=_;rw[show (dgA (fO t b)).size=32 by simp[dgA,HMO.out.1]];exact zF
 have HMS:Hid (32=(dgA (fO t b)).size):=by show _=_;simp[dgA,HMO.out.1]
 clear HMO;have HLE:=zh (TC (kA t b));have HMD:Hid (dgA (fO t b)=if (enc (kA t b)).1=0 then dg (ub (enc (kA t b)).2) else dgA zed):=by
  show _=_;unfold fO
  split <;> rfl
 generalize dgA (fO t b)=MD at *
 go_enter Tryz.func58,Tryz.ntmps58
 go_upto_region 1 with fail
 generalize hw0:World.alloc w _=w0;have HR0:Hid (Ah w0 w.heap.size (Array.replicate 32 (Value.int .u8 0)) 77):=by rw[←hw0];exact heap_alloc_new _ _
 have HB0:Hid (Bw w w0):=by rw[←hw0];exact (Below.refl _ _).alloc zl _
 have hs0:w.heap.size<w0.heap.size:=by rw[←hw0];simp
 clear hw0;go_wp2_with fail;refine (pS t sp n cap b w0 ((HP.out.below HB0.out zl).more zo)).mono ?_;rintro e w1 ⟨rfl,HH1,hb1⟩;have HB1:Hid (Bw w0 w1):=hb1;have hs1:w0.heap.size<w1.heap.size:=(Array.getElem?_eq_some_iff.1 HH1.out).1;clear hb1;have HA2:=zh (heap_alloc_new w1 (.cells #[.slice (some ⟨w0.heap.size,0,none⟩) 3 3] 55));have aBz:=zh ((Below.refl w1.heap.size w1).alloc zl (.cells #[.slice (some ⟨w0.heap.size,0,none⟩) 3 3] 55));go_wp2_with fail;generalize hw2:World.alloc w1 _=w2 at *;have HH2:Hid (Ah w2 w1.heap.size #[.slice (some ⟨w0.heap.size,0,none⟩) 3 3] 55):=HA2.out;have HB2:Hid (Bw w1 w2):=aBz.out;clear HA2 aBz hw2;have CS:Hid (Bw w0 w2):=HB1.out.trans (HB2.out.mono zo);have HL2:=zh (yZ HH2.out (tI ((HB2.out.block _ zo).trans HH1.out)));refine (uP _ 1 _ _ w2 HL2.out zo (fun q hq=>by rw[List.mem_singleton.1 hq];show 3≤_;omega)).mono ?_;rintro e w3 ⟨v,rfl,ho,hb3⟩;change Hid (w3.ownsRow w2.heap.size 5 1 v (enc (kA t b)).2.length (Lib.byteCells (enc (kA t b)).2)) at ho;rw[show aD [⟨some ⟨w0.heap.size,0,none⟩,3,3,[mN,t,⟨b.toArray⟩]⟩]=kA t b from rfl];have YE:=zh (CS.out.trans (hb3.mono CS.out.size));have HB3:Hid (Bw w w3):=HB0.out.trans (YE.out.mono zo);have HR3:Hid (Ah w3 w.heap.size (Array.replicate 32 (Value.int .u8 0)) 77):=(YE.out.block _ zo).trans HR0.out;clear hb3;generalize (enc (kA t b)).2=E at *;obtain⟨k,hk1⟩:∃ k,(enc (kA t b)).1=k:=⟨_,rfl⟩;rw[hk1];rw[hk1] at HMD;have ho1:w3.ownsRow w2.heap.size 5 1 v (ub E).length ((ub E).map (Value.int .u8)):=by
  rw[uX,eU];exact ho.out
 obtain⟨sp3,cap3,rfl,hsrc,hnil⟩:=eK ho1 (JI _);rw[eU] at hsrc;have hlen:=HLE.out;obtain⟨m,hm⟩:∃ m,E.length=m:=⟨_,rfl⟩;rw[hm] at hsrc hlen;rw[eU,hm];have HS3:=zh hsrc;have IQ:=zh hnil;clear hsrc hnil ho1 ho hm hk1 HLE HL2 HH1 HH2 HB1 HB2 CS;by_cases hk2:k=0
 ·subst hk2;have RU:Hid (MD=dg (ub E)):=HMD.out;clear HMD;have aAs:Hid (Calls Tryz.prog 95 #[.slice sp3 m cap3] w3 fun e w'=>e=.returned (.agg MD)∧Below w3.heap.size w3 w'):=by
   rw[RU.out];exact NL sp3 m cap3 (ub E) w3 HS3.out (HK.out.below HB3.out hk0) (by have:=HB3.out.size;omega) zo
  go_wp2_with fail;refine aAs.out.mono ?_;rintro e w4 ⟨rfl,hb4⟩;have HB4:=zh (HB3.out.trans (hb4.mono HB3.out.size));have HR4:Hid (Ah w4 w.heap.size (Array.replicate 32 (Value.int .u8 0)) 77):=(hb4.block _ (by have:=YE.out.size;omega)).trans HR3.out;have h1:∀ i:Fin MD.size,True:=fun _=>trivial;have NV:Hid (MD.all (·.oneCell')=true):=by show _=_;rw[RU.out];exact nT _
  clear hb4 h1 HR3 aAs
  go_wp2_with (refine wpList_store_row rfl 77 _ _ rfl w.heap.size MD rfl (by rfl) 77 _ HR4.out HMI.out ((rfl:((Array.replicate 32 (Value.int .u8 0))).size=32).trans HMS.out) NV.out ?_;have hr2:=setRow_heap _ _ _ MD _ _ HR4.out;have hb2:=below_setRow HB4.out (Nat.le_refl w.heap.size) MD;generalize World.setRow _ _ _=w9 at hr2 hb2 ⊢;have HR9:=zh hr2;have HB9:=zh hb2;clear hr2 hb2)
  refine bodyPost_ret (results_cell_row (P:=Tryz.prog) rfl _ _ w.heap.size 77 _ (0,0) _ rfl HR9.out Tryz.underlying77 rfl HMI.out) rfl ⟨rfl,HB9.out⟩
 ·have RU:Hid (MD=dgA zed):=by show _=_;have:=HMD.out;rwa [if_neg hk2] at this
  have hq:(((k:Nat):Int) == 0)=false:=by simp;omega
  have HZI:Hid ((Tryz.prog.info? 77).map (·.size)=some (dgA zed).size):=by show _=_;rw[show (dgA zed).size=32 from rfl];exact zF
  clear HMD
  go_wp2_with (refine wpList_store_row rfl 77 _ _ rfl w.heap.size (dgA zed) rfl (by rfl) 77 _ HR3.out HZI.out rfl (aW _ _) ?_;have hr2:=setRow_heap _ _ _ (dgA zed) _ _ HR3.out;have hb2:=below_setRow HB3.out (Nat.le_refl w.heap.size) (dgA zed);generalize World.setRow _ _ _=w9 at hr2 hb2 ⊢;have HR9:=zh hr2;have HB9:=zh hb2;clear hr2 hb2)
  refine bodyPost_ret (results_cell_row (P:=Tryz.prog) rfl _ _ w.heap.size 77 _ (0,0) _ rfl HR9.out Tryz.underlying77 rfl HZI.out) rfl ⟨by rw[RU.out],HB9.out⟩
theorem yE (t:ByteArray) (sp:Option Addr) (n cap:Nat) (b:List UInt8) (w:World) (hp:BSrc w w.heap.size sp n cap b) :
 Calls Tryz.prog 34 #[.string t,.slice sp n cap] w fun e w'=>e=.returned (.agg (dgA (fO t b)))∧Below w.heap.size w w':=by
 have HP:=zh hp;clear hp;have HMO:=zh (kK t b);have HMI:Hid ((Tryz.prog.info? 77).map (·.size)=some (dgA (fO t b)).size):=by show _=_;rw[show (dgA (fO t b)).size=32 by simp[dgA,HMO.out.1]];exact zF
 have HMS:Hid (32=(dgA (fO t b)).size):=by show _=_;simp[dgA,HMO.out.1]
 clear HMO;have HLE:=zh (TC (kA t b));have HMD:Hid (dgA (fO t b)=if (enc (kA t b)).1=0 then dg (ub (enc (kA t b)).2) else dgA zed):=by
  show _=_;unfold fO
  split <;> rfl
 generalize dgA (fO t b)=MD at *
 go_enter Tryz.func34,Tryz.ntmps34
 have hc:=fun w1 (h:Below w.heap.size w w1)=>cU (c2:=cap) (HP.out.below h zl)
 go_upto_region 1 with fail
 generalize hw0:World.alloc w _=w0;have HR0:Hid (Ah w0 w.heap.size (Array.replicate 32 (Value.int .u8 0)) 77):=by rw[←hw0];exact heap_alloc_new _ _
 have HB0:Hid (Bw w w0):=by rw[←hw0];exact (Below.refl _ _).alloc zl _
 have hs0:w.heap.size<w0.heap.size:=by rw[←hw0];simp
 clear hw0;have hc1:=hc w0 HB0.out;clear hc;have HA:=zh (heap_alloc_new w0 (.cells #[.string ⟨#[101,110,118,101,108,111,112,101]⟩,.string t,.string ⟨b.toArray⟩] 9));have HAB:=zh ((Below.refl w0.heap.size w0).alloc zl (.cells #[.string ⟨#[101,110,118,101,108,111,112,101]⟩,.string t,.string ⟨b.toArray⟩] 9));have HAS:=zh (World.size_alloc w0 (.cells #[.string ⟨#[101,110,118,101,108,111,112,101]⟩,.string t,.string ⟨b.toArray⟩] 9));have HA2:=zh (heap_alloc_new (w0.alloc (.cells #[.string ⟨#[101,110,118,101,108,111,112,101]⟩,.string t,.string ⟨b.toArray⟩] 9)) (.cells #[.slice (some ⟨w0.heap.size,0,none⟩) 3 3] 55));have aBz:=zh ((Below.refl (w0.alloc (.cells #[.string ⟨#[101,110,118,101,108,111,112,101]⟩,.string t,.string ⟨b.toArray⟩] 9)).heap.size (w0.alloc (.cells #[.string ⟨#[101,110,118,101,108,111,112,101]⟩,.string t,.string ⟨b.toArray⟩] 9))).alloc zl (.cells #[.slice (some ⟨w0.heap.size,0,none⟩) 3 3] 55));go_wp2_with fail;generalize hw1:World.alloc w0 _=w1 at *;generalize hw2:World.alloc w1 _=w2 at *;have HS1:Hid (w1.heap.size=w0.heap.size+1):=HAS.out;have hs1:w0.heap.size<w1.heap.size:=by have:=HS1.out;omega
 have HH1:Hid (Ah w1 w0.heap.size #[.string mN,.string t,.string ⟨b.toArray⟩] 9):=HA.out;have HB1:Hid (Bw w0 w1):=HAB.out;have HH2:Hid (Ah w2 w1.heap.size #[.slice (some ⟨w0.heap.size,0,none⟩) 3 3] 55):=HA2.out;have HB2:Hid (Bw w1 w2):=aBz.out;clear HA HAB HAS HA2 aBz hw1 hw2 hc1
 first | rw[show w0.heap.size+1=w1.heap.size from HS1.out.symm] | skip
 have CS:Hid (Bw w0 w2):=HB1.out.trans (HB2.out.mono zo);have HL2:=zh (yZ HH2.out (tI ((HB2.out.block _ zo).trans HH1.out)));refine (jE _ 1 _ _ w2 HL2.out zo (fun q hq=>by rw[List.mem_singleton.1 hq];show 3≤_;omega)).mono ?_;rintro e w3 ⟨v,rfl,ho,hb3⟩;change Hid (w3.ownsRow w2.heap.size 5 1 v (enc (kA t b)).2.length (Lib.byteCells (enc (kA t b)).2)) at ho;rw[show aD [⟨some ⟨w0.heap.size,0,none⟩,3,3,[mN,t,⟨b.toArray⟩]⟩]=kA t b from rfl];have YE:=zh (CS.out.trans (hb3.mono CS.out.size));have HB3:Hid (Bw w w3):=HB0.out.trans (YE.out.mono zo);have HR3:Hid (Ah w3 w.heap.size (Array.replicate 32 (Value.int .u8 0)) 77):=(YE.out.block _ zo).trans HR0.out;clear hb3;generalize (enc (kA t b)).2=E at *;obtain⟨k,hk1⟩:∃ k,(enc (kA t b)).1=k:=⟨_,rfl⟩;rw[hk1];rw[hk1] at HMD;have ho1:w3.ownsRow w2.heap.size 5 1 v (ub E).length ((ub E).map (Value.int .u8)):=by
  rw[uX,eU];exact ho.out
 obtain⟨sp3,cap3,rfl,hsrc,hnil⟩:=eK ho1 (JI _);rw[eU] at hsrc;have hlen:=HLE.out;obtain⟨m,hm⟩:∃ m,E.length=m:=⟨_,rfl⟩;rw[hm] at hsrc hlen;rw[eU,hm];have HS3:=zh hsrc;have IQ:=zh hnil;clear hsrc hnil ho1 ho hm hk1 HLE HL2 HH1 HH2 HB1 HB2 CS;by_cases hk2:k=0
 ·subst hk2;have RU:Hid (MD=dg (ub E)):=HMD.out;clear HMD;have aAs:Hid (Calls Tryz.prog 72 #[.slice sp3 m cap3] w3 fun e w'=>e=.returned (.agg MD)∧Below w3.heap.size w3 w'):=by
   rw[RU.out];exact oM sp3 m cap3 (ub E) w3 HS3.out IQ.out zo
  go_wp2_with fail;refine aAs.out.mono ?_;rintro e w4 ⟨rfl,hb4⟩;have HB4:=zh (HB3.out.trans (hb4.mono HB3.out.size));have HR4:Hid (Ah w4 w.heap.size (Array.replicate 32 (Value.int .u8 0)) 77):=(hb4.block _ (by have:=YE.out.size;omega)).trans HR3.out;have h1:∀ i:Fin MD.size,True:=fun _=>trivial;have NV:Hid (MD.all (·.oneCell')=true):=by show _=_;rw[RU.out];exact nT _
  clear hb4 h1 HR3 aAs
  go_wp2_with (refine wpList_store_row rfl 77 _ _ rfl w.heap.size MD rfl (by rfl) 77 _ HR4.out HMI.out ((rfl:((Array.replicate 32 (Value.int .u8 0))).size=32).trans HMS.out) NV.out ?_;have hr2:=setRow_heap _ _ _ MD _ _ HR4.out;have hb2:=below_setRow HB4.out (Nat.le_refl w.heap.size) MD;generalize World.setRow _ _ _=w9 at hr2 hb2 ⊢;have HR9:=zh hr2;have HB9:=zh hb2;clear hr2 hb2)
  refine bodyPost_ret (results_cell_row (P:=Tryz.prog) rfl _ _ w.heap.size 77 _ (0,0) _ rfl HR9.out Tryz.underlying77 rfl HMI.out) rfl ⟨rfl,HB9.out⟩
 ·have RU:Hid (MD=dgA zed):=by show _=_;have:=HMD.out;rwa [if_neg hk2] at this
  have hq:(((k:Nat):Int) == 0)=false:=by simp;omega
  have HZI:Hid ((Tryz.prog.info? 77).map (·.size)=some (dgA zed).size):=by show _=_;rw[show (dgA zed).size=32 from rfl];exact zF
  clear HMD
  go_wp2_with (refine wpList_store_row rfl 77 _ _ rfl w.heap.size (dgA zed) rfl (by rfl) 77 _ HR3.out HZI.out rfl (aW _ _) ?_;have hr2:=setRow_heap _ _ _ (dgA zed) _ _ HR3.out;have hb2:=below_setRow HB3.out (Nat.le_refl w.heap.size) (dgA zed);generalize World.setRow _ _ _=w9 at hr2 hb2 ⊢;have HR9:=zh hr2;have HB9:=zh hb2;clear hr2 hb2)
  refine bodyPost_ret (results_cell_row (P:=Tryz.prog) rfl _ _ w.heap.size 77 _ (0,0) _ rfl HR9.out Tryz.underlying77 rfl HZI.out) rfl ⟨by rw[RU.out],HB9.out⟩
end Go.Proofs.YtaeobegaodhpcaaGreatDoor
namespace Go.Proofs.YtaeobegaodhpcaaGreatDoor
open Go.RowKit
def DG (l:List (List Int)):List Value:=l.flatMap fun d=>d.map (Value.int .u8)
theorem BB (l:List (List Int)) (x:List Int):DG (l++[x])=DG l++x.map (Value.int .u8):=by simp[DG]
def OwnDg (w:World) (base:Nat) (v:Value) (l:List (List Int)):Prop:=w.ownsRow base 77 32 v l.length (DG l)∧∀ x ∈ l,D32 x
theorem OwnDg.nil (w:World) (base:Nat):OwnDg w base (.slice none 0 0) []:=⟨World.ownsRow_nil w base _ _,by simp⟩
theorem OwnDg.below {w w':World} {base:Nat} {v:Value} {l:List (List Int)} (h:OwnDg w base v l) (hb:Below w.heap.size w w'):OwnDg w' base v l:=⟨eB h.1 hb,h.2⟩
theorem OwnDg.digs {w:World} {base:Nat} {sp:Option Addr} {n cap:Nat} {l:List (List Int)} (h:OwnDg w base (.slice sp n cap) l) (hn:l.length=n):DigsIn w w.heap.size sp n cap l:=by
 refine⟨hn,fun x hx=>⟨(h.2 x hx).1,(h.2 x hx).2⟩,fun h0=>?_⟩;have h1:=h.1;obtain⟨_,⟨e,e0⟩ | ⟨g,cap',cur,e,_⟩⟩:=h.1
 ·omega
 ·injection e with e1 e2 e3
  subst e1;obtain⟨hg,hc,hr⟩:=oO (f:=fun d:List Int=>d.map (Value.int .u8)) h1 (fun x hx=>by rw[List.length_map,(h.2 x hx).1]) hn;refine⟨g,0,rfl,hg,hc,fun i hi=>?_⟩;exact hr i _ (by rw[List.getD_eq_getElem?_getD,List.getElem?_eq_getElem zo];rfl)
theorem ZQ:(Tryz.prog.info? 77).map (fun i=>(i.zero,i.size,i.bytes))=some (some (.agg (List.replicate 32 (Value.int .u8 0)).toArray),32,32):=by kernel_rfl
theorem qF {w:World} {ops:Array Oper} {rest:List Oper} {o:Oper} {a:Act} {Q:Exit→Act→World→Prop} (hgd:o.guard=none) (s x:Operand)
 (ho:o.op=.call { callee:=.builtin .append,args:=#[s,x],argTypes:=#[70,70] }) (base:Nat) (v:Value) (l:List (List Int)) (n:Nat) (hn:n=l.length) (hs:a.eval s=v) (hown:OwnDg w base v l)
 (g:Nat) (y:List Int) (hx:a.eval x=.slice (some ⟨g,0,none⟩) 1 1) (hy:w.rangeAt g 0 (y.map (Value.int .u8))) (hok:D32 y) (hlen:n≤1000000) (hbase:base≤w.heap.size)
 (h:∀ sp cap w',Hid (OwnDg w' base (.slice sp (n+1) cap) (l++[y]))→Hid (Below base w w')→Hid (w.grownBy w' v.ownBlock)→wpList Tryz.prog ops Q rest (a.put o.dst (.slice sp (n+1) cap)) w'):wpList Tryz.prog ops Q (o :: rest) a w:=by
 subst hn;obtain⟨i0,hi0,hz0,hz1,hz2⟩:=bF ZQ;refine wpList_append_own w hgd s x _ ho base _ i0 _ 32 32 Tryz.underlying70 hi0 hz0 hz1 hz2 rfl (by decide) v l.length _ hs hown.1 ⟨g,0,none⟩ 1 1 (y.map (Value.int .u8)) hx (by rw[List.length_map,hok.1]) ?_ (jG _ _) (by unfold maxLen;omega) zo hbase ?_
 ·intro j u hj;rw[Addr.add_mid];exact hy j u hj
 ·intro v' w' h1 h2 _;obtain⟨sp,cap,rfl⟩:=aM h1;refine h sp cap w' ⟨by rw[BB,List.length_append];exact h1,fun z hz=>?_⟩ ((Below.refl base w).grown h2 hbase (bO hown.1)) h2;rcases List.mem_append.1 hz with hz | hz
  ·exact hown.2 z hz
  ·rw[List.mem_singleton.1 hz];exact hok
theorem YU:(Tryz.prog.info? 77).map (·.zero)=some (some (.agg (List.replicate 32 (Value.int .u8 0)).toArray)):=by kernel_rfl
theorem UE (w:World) (x:List Int) (hx:D32 x):(Instr.buildSlice 70 1 #[(0,.agg (dv x))]).run Tryz.prog w=.ok (.slice (some ⟨w.heap.size,0,none⟩) 1 1) (w.alloc (.cells (dv x) 77)):=by
 have h:(x.map (Value.int .u8)).length=32:=by rw[List.length_map,hx.1]
 have hz:=YU;have hi:=zF
 cases hie:Tryz.prog.info? 77 with
 | none=>rw[hie] at hi;cases hi
 | some ie =>
   rw[hie] at hi hz;exact rG w _ _ _ ie _ Tryz.underlying70 hie (by injection hz) (by rw[h];injection hi) zo zo
theorem OwnDg.base {w:World} {b b':Nat} {v:Value} {l:List (List Int)} (h:OwnDg w b v l) (hb:b'≤b):OwnDg w b' v l:=by
 refine⟨?_,h.2⟩;obtain⟨hl,h1 | ⟨g,cap,cur,e,hbg,rest⟩⟩:=h.1
 ·exact⟨hl,.inl h1⟩
 ·exact⟨hl,.inr ⟨g,cap,cur,e,Nat.le_trans hb hbg,rest⟩⟩
end Go.Proofs.YtaeobegaodhpcaaGreatDoor
namespace Go.Proofs.YtaeobegaodhpcaaGreatDoor
open Go.RowKit Go.Proofs.YtaeobegaodhpcaaGreatDoor.One
def IZ (d:List Int) (p:Pg):Bool:=SG p.h p.r d p.a p.l.length p.q.length p.l p.q
theorem TY {w:World} {B:Nat} {x:Sg} (h:SgD w B x) (d:List Int):SG x.h x.r d x.a x.n x.m x.l x.q=IZ d (pg x):=by
 unfold IZ pg;rw[show x.n=x.l.length from h.c.len.symm,show x.m=x.q.length from h.p.len.symm]
def AI (d:List Int) (L:List Pg):List (List Int):=(L.filter (IZ d)).map idP
theorem MA (d:List Int) (L:List Pg) (x:Pg):AI d (L++[x])=if IZ d x=true then AI d L++[idP x] else AI d L:=by
 unfold AI;rw[List.filter_append]
 cases h:IZ d x <;> simp[h]
theorem VS (d:List Int) (L:List Pg):(AI d L).length≤L.length:=by unfold AI;rw[List.length_map];exact List.length_filter_le _ _
def SJ (t:ByteArray) (b:List UInt8) (L:List Pg):List (List Int):=if fM t b L=true then AI (fO t b) L else []
theorem uT {t:ByteArray} {b:List UInt8} {L:List Pg} (h:fM t b L=true):L.length≤8:=by
 unfold fM at h;simp only[Bool.and_eq_true,decide_eq_true_eq] at h;exact h.2.2.1
theorem TZ (x:Sg) (p:Nat) (d:List Int) (w:World) (hx:OkG x) (hd:D32 d) (hdat:SgD w w.heap.size x) (hp:w.heap[p]? = some (.cells (dgA d) 77 (0,0))) (hk:KayIn w) (hk0:4<w.heap.size) :
 Calls Tryz.prog 102 #[.agg (aX x).toArray,.pointer (some ⟨p,0,none⟩)] w fun e w'=>e=.returned (.bool (IZ d (pg x)))∧Below w.heap.size w w':=by
 have HX:=zh hx;have HD:=zh hd;have HK:=zh hk;have HDT:=zh hdat;have HN:=zh (GB.new w x);have HBN:=zh ((Below.refl w.heap.size w).alloc zl (.cells (aX x).toArray 50));have hpl:=(Array.getElem?_eq_some_iff.1 hp).1;have HP:=zh hp;have HV:=zh (TY hdat d);clear hx hd hk hdat hp
 go_enter Tryz.func102,Tryz.ntmps102
 go_upto_region 1 with fail
 generalize hw0:World.alloc w _=w0;have HG0:Hid (GB w0 w.heap.size x):=by rw[←hw0];exact HN.out
 have HB0:Hid (Bw w w0):=by rw[←hw0];exact HBN.out
 have hs0:w0.heap.size=w.heap.size+1:=by rw[←hw0];simp
 have HP0:=zh ((HB0.out.block _ hpl).trans HP.out);clear hw0 HN HBN;have HPP:=zh HG0.out.p;have HSS:=zh (HG0.out.s HX.out);have HIP:=zh (iG HX.out);have HIS:=zh (oS x);have HID:Hid ((Tryz.prog.info? 77).map (·.size)=some (dgA d).size):=by show _=_;rw[show (dgA d).size=32 by simp[dgA,HD.out.1]];exact zF
 have HCV:Hid (Calls Tryz.prog 103 #[.agg (sgP x).toArray,.agg (dgA d),.agg (sgS x).toArray] w0 fun e w''=>e=.returned (.bool (IZ d (pg x)))∧Below w0.heap.size w0 w''):=by
  have h:=FH x.h x.r d x.a x.sp x.n x.c x.sq x.m x.d x.l x.q w0 HX.out HD.out (HDT.out.up HB0.out zl).c (HDT.out.up HB0.out zl).p (HK.out.below HB0.out hk0) zo;rw[HV.out] at h;exact h
 go_wp2_with (first
  | (refine wpList_load_mid rfl 44 _ rfl w.heap.size 0 rfl _ _ HPP.out Tryz.underlying44 rfl HIP.out ?_)
  | (refine wpList_load_row rfl 77 _ rfl p rfl 77 _ (0,0) _ HP0.out Tryz.underlying77 rfl HID.out ?_)
  | (refine wpList_load_mid rfl 48 _ rfl w.heap.size 17 rfl _ _ HSS.out Tryz.underlying48 rfl HIS.out ?_))
 refine HCV.out.mono ?_;rintro e w1 ⟨rfl,hb⟩;have HB1:=zh hb;clear hb;go_wp2_with fail;go_ret;exact⟨rfl,HB0.out.trans (HB1.out.mono zo)⟩
theorem xM (t:ByteArray) (sp:Option Addr) (n cap:Nat) (b:List UInt8) (s:Value) (w:World) (hp:BSrc w w.heap.size sp n cap b) (hk:KayIn w) (hk0:4<w.heap.size) :
 Calls Tryz.prog 63 #[.agg (enA t (.slice sp n cap) s)] w fun e w'=>∃ p,e=.returned (.func (.func 102) #[] #[.pointer (some ⟨p,0,none⟩)])∧Hid (w'.heap[p]? = some (.cells (dgA (fO t b)) 77 (0,0))∧w.heap.size≤p)∧Below w.heap.size w w':=by
 have HP:=zh hp;have HK:=zh hk;have HE:=zh (heap_alloc_new w (.cells (enA t (.slice sp n cap) s) 25));clear hp hk;have HMO:=zh (kK t b);have HMI:Hid ((Tryz.prog.info? 77).map (·.size)=some (dgA (fO t b)).size):=by show _=_;rw[show (dgA (fO t b)).size=32 by simp[dgA,HMO.out.1]];exact zF
 have HMS:Hid (32=(dgA (fO t b)).size):=by show _=_;simp[dgA,HMO.out.1]
 go_enter Tryz.func63,Tryz.ntmps63
 go_upto_region 1 with fail
 generalize hw0:World.alloc w _=w0;have HE0:Hid (Ah w0 w.heap.size (enA t (.slice sp n cap) s) 25):=by rw[←hw0];exact HE.out
 have HB0:Hid (Bw w w0):=by rw[←hw0];exact (Below.refl _ _).alloc zl _
 have hs0:w0.heap.size=w.heap.size+1:=by rw[←hw0];simp
 clear hw0 HE;have c0:=IM HE0.out;have c1:=qU HE0.out;have HCM:=zh (rT t sp n cap b w0 ((HP.out.below HB0.out zl).more zo) (HK.out.below HB0.out hk0) zo);go_wp2_with fail;refine HCM.out.mono ?_;rintro e w1 ⟨rfl,hb⟩;have HB1:=zh hb;clear hb;clear c0 c1;have HZ:=zh (heap_alloc_new w1 (.cells (Array.replicate 32 (Value.int .u8 0)) 77));have HB2:=zh ((Below.refl w1.heap.size w1).alloc zl (.cells (dgA (fO t b)) 77));have HH2:=zh (heap_alloc_new w1 (.cells (dgA (fO t b)) 77));have HBW:=zh (HB0.out.trans (HB1.out.mono zo));have hs1:=HB1.out.size;generalize hMD:dgA (fO t b)=MD at *;have NV:Hid (MD.all (·.oneCell')=true):=by show _=_;rw[←hMD];exact aW _ _
 go_wp2_with (refine wpList_store_row rfl 77 _ _ rfl w1.heap.size MD rfl (by rfl) 77 _ HZ.out HMI.out ((rfl:((Array.replicate 32 (Value.int .u8 0))).size=32).trans HMS.out) NV.out ?_;rw[aK];generalize hw2:World.alloc w1 _=w2 at *)
 go_ret;exact⟨w1.heap.size,rfl,⟨by rw[hMD];exact HH2.out,by omega⟩,HBW.out.trans (HB2.out.mono zo)⟩
theorem AT (t:ByteArray) (sp:Option Addr) (n cap:Nat) (b:List UInt8) (sq:Option Addr) (m cq:Nat) (l:List Sg) (w:World) (ht:t.size≤maxLen) (hp:BSrc w w.heap.size sp n cap b) (hl:SgsIn w w.heap.size sq m cq l) (hk:KayIn w) (hk0:4<w.heap.size) :
 Calls Tryz.prog 30 #[.agg (enA t (.slice sp n cap) (.slice sq m cq))] w fun e w'=>∃ sp' cap',e=.returned (.slice sp' (SJ t b (l.map pg)).length cap')∧OwnDg w' w.heap.size (.slice sp' (SJ t b (l.map pg)).length cap') (SJ t b (l.map pg))∧Below w.heap.size w w':=by
 have HP:=zh hp;have HL:=zh hl;have HK:=zh hk;have HE:=zh (heap_alloc_new w (.cells (enA t (.slice sp n cap) (.slice sq m cq)) 25));clear hp hl hk;obtain⟨S,hS⟩:∃ S,SJ t b (l.map pg)=S:=⟨_,rfl⟩;have HSG:Hid (S=if fM t b (l.map pg)=true then AI (fO t b) (l.map pg) else []):=by show _=_;rw[←hS];rfl
 rw[hS];clear hS
 go_enter Tryz.func30,Tryz.ntmps30
 go_upto_region 1 with fail
 generalize hw0:World.alloc w _=w0;have HE0:Hid (Ah w0 w.heap.size (enA t (.slice sp n cap) (.slice sq m cq)) 25):=by rw[←hw0];exact HE.out
 have HB0:Hid (Bw w w0):=by rw[←hw0];exact (Below.refl _ _).alloc zl _
 have hs0:w0.heap.size=w.heap.size+1:=by rw[←hw0];simp
 clear hw0 HE;have HP0:=zh ((HP.out.below HB0.out zl).more (show w.heap.size≤w0.heap.size by omega));have HL0:=zh (HL.out.up HB0.out zl);have HCV:=zh (fI t sp n cap b sq m cq l w0 ht HP0.out HL0.out (HK.out.below HB0.out hk0) zo);have HIE:=zh (aE t (.slice sp n cap) (.slice sq m cq))
 go_wp2_with (refine wpList_load_row rfl 25 _ rfl w.heap.size rfl 25 _ (0,0) _ HE0.out Tryz.underlying25 rfl HIE.out ?_)
 refine HCV.out.mono ?_;rintro e w1 ⟨rfl,hb⟩;have HB1:=zh hb;clear hb HCV;have hs1:=HB1.out.size;have uO:Hid (Bw w w1):=HB0.out.trans (HB1.out.mono zo);have HVL:=zh (@uT t b (l.map pg));generalize fM t b (l.map pg)=v at *
 cases v
 ·have aAv:Hid (S=[]):=HSG.out;clear HSG;go_wp2_with fail;go_ret;exact⟨none,0,by rw[aAv.out];rfl,by rw[aAv.out];exact OwnDg.nil _ _,uO.out⟩
 ·have aAv:Hid (S=AI (fO t b) (l.map pg)):=HSG.out;have h8:m≤8:=by have:=HVL.out rfl;rw[List.length_map,HL.out.len] at this;exact this
  clear HSG HVL;have HE1:Hid (Ah w1 w.heap.size (enA t (.slice sp n cap) (.slice sq m cq)) 25):=(HB1.out.block _ zo).trans HE0.out;have HCF:=zh (xM t sp n cap b (.slice sq m cq) w1 ((HP0.out.below HB1.out zl).more hs1) (HK.out.below uO.out hk0) (by have:=uO.out.size;omega))
  go_wp2_with (refine wpList_load_row rfl 25 _ rfl w.heap.size rfl 25 _ (0,0) _ HE1.out Tryz.underlying25 rfl HIE.out ?_)
  refine HCF.out.mono ?_;rintro e w2 ⟨p,rfl,HPM,hb⟩;have HB2:=zh hb;clear hb HCF;have hs2:=HB2.out.size;have uN:Hid (Bw w w2):=uO.out.trans (HB2.out.mono zo);have HE2:Hid (Ah w2 w.heap.size (enA t (.slice sp n cap) (.slice sq m cq)) 25):=(HB2.out.block _ zo).trans HE1.out;have c2:=iW HE2.out;have hpl:p<w2.heap.size:=(Array.getElem?_eq_some_iff.1 HPM.out.1).1;have HPD:=zh HPM.out.1;have HMD:=zh (kK t b);clear HPM HE1 HE0;generalize fO t b=d at *;obtain⟨B,hBe⟩:∃ B,B=w2.heap.size:=⟨_,rfl⟩;have hBW:w.heap.size≤B:=by omega
  go_upto_region 6 with fail
  go_loopw [4,15] (fun v i wr=>∃ k:Nat,k≤m∧i=.int .i64 k∧Hid (OwnDg wr B v (AI d ((l.map pg).take k)))∧Hid (Below B w2 wr)) (fun _ i _=>m-(intOf i).toNat)
  case atStart=>exact⟨0,Nat.zero_le _,rfl,OwnDg.nil _ _,Below.refl _ _⟩
  case round =>
   obtain⟨k,hk,rfl,HOW,HBR⟩:=hrel;have hszr:B≤wr.heap.size:=by have:=HBR.out.size;omega
   by_cases hlt:k<m
   ·have hd:decide ((k:Int)<(m:Int))=true:=by simp;omega
    obtain⟨bq,off,rfl,hbB,hcap,hr⟩:=HL.out.cells zo;have hkl:k<l.length:=by rw[HL.out.len];exact hlt
    obtain⟨x,hx⟩:∃ x,l[k]? = some x:=⟨l[k],List.getElem?_eq_getElem hkl⟩;have hxm:x ∈ l:=List.mem_of_getElem? hx;have EZ:=zh (uN.out.trans (HBR.out.mono hBW));have HR:=zh (aB (hr k x hx) EZ.out hbB);have HOX:=zh (HL.out.ok x hxm);have HI:=zh (gG HOX.out);have HIP:=zh (iG HOX.out);have HDX:=zh (HL.out.dat x hxm);have HTK:=zh (show (l.map pg).take (k+1)=(l.map pg).take k++[pg x] by rw[List.take_add_one,List.getElem?_map,hx];rfl);have p1:(0:Int)≤(k:Int):=by omega
    have p2:(k:Int)<(m:Int):=by omega
    have p3:(m:Int)≤(cq:Int):=by omega
    have HZG:=zh (heap_alloc_new wr (.cells zG.toArray 50));clear hr hx hxm hkl hbB c2
    go_upto_region 8 with (first
     | (refine wpList_load_mid rfl 50 _ rfl bq (off + k * 20) rfl _ _ HR.out Tryz.underlying50 rfl HI.out ?_)
       | (refine wpList_store_row rfl 50 _ _ rfl wr.heap.size _ rfl rfl 50 _ HZG.out (aS HOX.out) (bR HOX.out) (bG x) ?_;rw[aK];generalize hw1':World.alloc wr _=w1';have HG1':Hid (GB w1' wr.heap.size x):=(by rw[←hw1'];exact GB.new wr x);have HB1':Hid (Below wr.heap.size wr w1'):=(by rw[←hw1'];exact (Below.refl _ _).alloc zl _);have hs1':w1'.heap.size=wr.heap.size+1:=(by rw[←hw1'];simp);clear hw1'))
    clear HZG;have aBu:Hid (Below w.heap.size w w1'):=EZ.out.trans (HB1'.out.mono zo);have HPD1:Hid (Ah w1' p (dgA d) 77):=(HB1'.out.block _ zo).trans ((HBR.out.block _ zo).trans HPD.out);have HCF:=zh (TZ x p d w1' HOX.out HMD.out (HDX.out.up aBu.out zl) HPD1.out (HK.out.below aBu.out hk0) zo)
    go_wp2_with (refine wpList_load_row rfl 50 _ rfl wr.heap.size rfl 50 _ (0,0) _ HG1'.out Tryz.underlying50 rfl (aS HOX.out) ?_)
    refine HCF.out.mono ?_;rintro e w3 ⟨rfl,hb⟩;have HB3:=zh hb;clear hb HCF HPD1;have hs3:=HB3.out.size;have HG3:Hid (GB w3 wr.heap.size x):=HG1'.out.below HB3.out zo;have HPP:=zh HG3.out.p;have HBR3:Hid (Below B w2 w3):=HBR.out.trans ((HB1'.out.mono hszr).trans (HB3.out.mono zo));have HOW3:=zh ((HOW.out.below HB1'.out).below HB3.out);have HSN:=zh (MA d ((l.map pg).take k) (pg x));have HLN:=zh (VS d ((l.map pg).take k))
    cases hv:IZ d (pg x)
    ·rw[hv] at HSN;have aAu:Hid (AI d ((l.map pg).take (k+1))=AI d ((l.map pg).take k)):=by show _=_;rw[HTK.out];exact HSN.out
     clear hv HSN;go_wp2_with fail;go_roundw
     case rel=>exact⟨k+1,by omega,by go_num,by rw[aAu.out];exact HOW3,HBR3⟩
     case measure=>simp[intOf];omega
    ·rw[hv] at HSN;have aAu:Hid (AI d ((l.map pg).take (k+1))=AI d ((l.map pg).take k)++[idP (pg x)]):=by show _=_;rw[HTK.out];exact HSN.out
     clear hv HSN;have HCI:=zh (MB x.h x.r w3 HOX.out (HK.out.below (uN.out.trans (HBR3.out.mono hBW)) hk0) (by have:=HBR3.out.size;have:=uN.out.size;omega));have HCI2:Hid (Calls Tryz.prog 64 #[.agg (sgP x).toArray] w3 fun e w''=>e=.returned (.agg (dv (idP (pg x))))∧Below w3.heap.size w3 w''):=HCI.out;clear HCI;have HYO:=zh (iU (pg x));have HLK:Hid ((AI d ((l.map pg).take k)).length≤1000000):=by show _≤_;have:=HLN.out;rw[List.length_take] at this;omega
     generalize idP (pg x)=y at *
     go_wp2_with (refine wpList_load_mid rfl 44 _ rfl wr.heap.size 0 rfl _ _ HPP.out Tryz.underlying44 rfl HIP.out ?_)
     refine HCI2.out.mono ?_;rintro e w6 ⟨rfl,hb⟩;have HB6:=zh hb;clear hb HCI2;have hs6:=HB6.out.size;have HO6:=zh (HOW3.out.below HB6.out)
     go_wp2_with (first
      | (refine aT rfl 70 1 [(0,.tmp 25)] rfl [(0,.agg (dv y))] rfl _ _ (UE _ y HYO.out) ?_;generalize hw7:World.alloc w6 _=w7;have hr7:w7.rangeAt w6.heap.size 0 (y.map (Value.int .u8)):=(by rw[←hw7];intro j v hv;rw[Nat.zero_add];exact aG (heap_alloc_new w6 _) hv);have hb7:Below w6.heap.size w6 w7:=(by rw[←hw7];exact aA _ _);have HR7:=zh hr7;have HB7:=zh hb7;have HO7:=zh (HO6.out.below hb7);have hs7:=hb7.size;have hs7b:B≤w7.heap.size:=(by omega);clear hw7 hr7 hb7)
      | (at_builtin;refine qF rfl (.tmp 22) (.tmp 26) rfl B _ _ _ rfl rfl HO7.out w6.heap.size y rfl HR7.out HYO.out HLK.out hs7b ?_;intro sp8 cap8 w8 HO8 HB8 HG8))
     go_roundw
     case rel=>exact⟨k+1,by omega,by go_num,by rw[aAu.out];exact HO8,HBR3.out.trans ((HB6.out.mono zo).trans ((HB7.out.mono zo).trans HB8.out))⟩
     case measure=>simp[intOf];omega
   ·obtain rfl:k=m:=by omega
    have hd1:decide ((k:Int)<(k:Int))=false:=by simp
    have HTK:Hid ((l.map pg).take k=l.map pg):=by show _=_;rw[List.take_of_length_le];rw[List.length_map,HL.out.len];omega
    rw[HTK.out] at HOW;obtain⟨sp',cap',rfl⟩:=aM HOW.out.1;go_wp2_with fail;go_ret;exact⟨sp',cap',by rw[aAv.out];rfl,by rw[aAv.out];exact HOW.out.base hBW,uN.out.trans (HBR.out.mono hBW)⟩
end Go.Proofs.YtaeobegaodhpcaaGreatDoor
