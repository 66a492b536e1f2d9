/-
  The walks of small functions of package document: which bytes are letters or digits, which stand for themselves, where a byte is in a string, which strings are names (for all arguments that are named in each theorem).
-/
import Derived.Test.YtaeobegaodhpcaaGreatDoorZip
import Derived.Test.YtaeobegaodhpcaaGreatDoorProg
import Derived.WalkKit
import Derived.WalkSpells
import Derived.WalkLawsBesides
import Derived.Deep.QuietTactic
import Derived.BigQuiet
import Derived.Lib.Hide
import Derived.Lib.Bytealg
import Derived.Lib.AppendStr
import Derived.Lib.UnsafeStr
import Derived.Lib.BufferWrite
import Derived.Laws.IdiomStrings
import Derived.Deep.RegionHeld3
import Derived.Deep.DrawnRows
import Derived.BigRegion
import Derived.Deep.MidRow
import Derived.Test.YtaeobegaodhpcaaGreatDoorChecked
import Derived.Lib.SplitLaws
import Derived.Lib.IndexBytes
import Derived.Below
import Derived.Deep.OwnRows
import Derived.Deep.LoopGhost
import Derived.IntWalk
set_option maxRecDepth 100000
set_option maxHeartbeats 8000000
namespace Go.Proofs.YtaeobegaodhpcaaGreatDoor
open Go.RowKit
theorem bM {a b:Bool} (h:a=b):Ending.returned (.bool a)=.returned (.bool b):=by rw[h]
theorem kI {k:IntKind} {a b:Int} (h:a=b):Ending.returned (.int k a)=.returned (.int k b):=by rw[h]
def dV (c:Int):Bool:=decide (48≤c) && decide (c≤57)
def ldB (c:Int):Bool:=(decide (97≤c) && decide (c≤122)) || dV c
def lU (c:Int):Bool:=(decide (33≤c) && decide (c≤125)) && (c != 37)
theorem rZ (c:Int) (w:World) :
 Calls Tryz.prog 104 #[.int .u8 c] w fun e w'=>e=.returned (.bool (dV c))∧w=w':=by
 by_cases h1:48≤c
 ·go_enter Tryz.func104,Tryz.ntmps104
  go_wp2
  go_ret;exact⟨bM (by simp[dV,h1]),rfl⟩
 ·go_enter Tryz.func104,Tryz.ntmps104
  go_wp2
  go_ret;exact⟨bM (by unfold dV;rw[decide_eq_false (p:=48≤c) zo];rfl),rfl⟩
theorem dA (c:Int) (w:World) :
 Calls Tryz.prog 65 #[.int .u8 c] w fun e w'=>e=.returned (.bool (ldB c))∧w=w':=by
 by_cases h1:97≤c
 ·by_cases h2:c≤122
  ·go_enter Tryz.func65,Tryz.ntmps65
   go_wp2
   go_ret;exact⟨bM (by unfold ldB;rw[decide_eq_true h1,decide_eq_true h2];rfl),rfl⟩
  ·go_enter Tryz.func65,Tryz.ntmps65
   go_wp2_with (go_at_call 104;refine (rZ _ _).mono ?_;rintro e w' ⟨rfl,rfl⟩)
   go_ret;exact⟨bM (by unfold ldB;rw[decide_eq_false (p:=c≤_) zo];simp),rfl⟩
 ·go_enter Tryz.func65,Tryz.ntmps65
  go_wp2_with (go_at_call 104;refine (rZ _ _).mono ?_;rintro e w' ⟨rfl,rfl⟩)
  go_ret;exact⟨bM (by unfold ldB;rw[decide_eq_false (p:=_≤c) zo];simp),rfl⟩
theorem iP (c:Int) (w:World) :
 Calls Tryz.prog 80 #[.int .u8 c] w fun e w'=>e=.returned (.bool (lU c))∧w=w':=by
 by_cases h1:33≤c
 ·by_cases h2:c≤125
  ·go_enter Tryz.func80,Tryz.ntmps80
   go_wp2
   go_ret;exact⟨bM (by unfold lU;rw[decide_eq_true h1,decide_eq_true h2];rfl),rfl⟩
  ·go_enter Tryz.func80,Tryz.ntmps80
   go_wp2
   go_ret;exact⟨bM (by unfold lU;rw[decide_eq_false (p:=c≤_) zo];simp),rfl⟩
 ·go_enter Tryz.func80,Tryz.ntmps80
  go_wp2
  go_ret;exact⟨bM (by unfold lU;rw[decide_eq_false (p:=_≤c) zo];simp),rfl⟩
theorem rD (s:ByteArray) (w:World) :
 Calls Tryz.prog 79 #[.string s] w fun e w'=>e=.returned (.bool (decide (32768<s.size)))∧w=w':=by
 go_enter Tryz.func79,Tryz.ntmps79
 go_wp2
 go_ret;exact⟨bM (by simp;omega),rfl⟩
theorem oT (s:ByteArray) (c:Int) (w:World) :
 Calls Tryz.prog 105 #[.string s,.int .u8 c] w fun e w'=>e=.returned (.int .i64 (Lib.indexByte s.data.toList c.toNat.toUInt8))∧w=w':=by
 go_enter Tryz.func105,Tryz.ntmps105
 go_wp2
 rw[run_callFunc_extern Tryz.func137 (by kernel_rfl) (by kernel_rfl) (by kernel_rfl) (e:=Extern.BytealgIndexByte.indexByte) (by kernel_rfl),Lib.run_indexByteString];simp only[Result.andThen];rw[Oper.upon_value]
 go_wp2
 go_ret;exact⟨rfl,rfl⟩
theorem fU (s:ByteArray) (c:Int) (w:World) :
 Calls Tryz.prog 66 #[.string s,.int .u8 c] w fun e w'=>e=.returned (.int .i64 (Lib.indexByte s.data.toList c.toNat.toUInt8))∧w=w':=by
 go_enter Tryz.func66,Tryz.ntmps66
 go_wp2_with (go_at_call 105;refine (oT _ _ _).mono ?_;rintro e w' ⟨rfl,rfl⟩)
 go_ret;exact⟨rfl,rfl⟩
def nmc (c:UInt8):Bool:=ldB c.toNat || (c == 46 || c == 95 || c == 45)
def nmB (l:List UInt8):Bool:=decide (l.length≤64) && ((match l with | c :: _=>ldB c.toNat | []=>false) && l.all nmc)
theorem TF (c:UInt8):((c.toNat:Int)).toNat.toUInt8=c:=by simp
theorem dots (c:UInt8):decide (Lib.indexByte [46,95,45] c<0) = !(c == 46 || c == 95 || c == 45):=by
 unfold Lib.indexByte Lib.indexByte Lib.indexByte Lib.indexByte;by_cases h1:c=46
 ·subst h1;rfl
 ·by_cases h2:c=95
  ·subst h2;rfl
  ·by_cases h3:c=45
   ·subst h3;rfl
   ·have e1:((46:UInt8) == c)=false:=by simpa using fun h=>h1 h.symm
    have e2:((95:UInt8) == c)=false:=by simpa using fun h=>h2 h.symm
    have e3:((45:UInt8) == c)=false:=by simpa using fun h=>h3 h.symm
    simp[e1,e2,e3,h1,h2,h3]
theorem BM {c:UInt8} (h:ldB c.toNat=false):nmc c = !decide (Lib.indexByte [46,95,45] c<0):=by
 rw[dots];unfold nmc;rw[h];simp
theorem LF {c:UInt8} (h:ldB c.toNat=true):nmc c=true:=by unfold nmc;rw[h];rfl
theorem lV (s:ByteArray) (k:Nat) (h:k<s.size):s.data.toList.take (k+1)=s.data.toList.take k++[s[k]]:=by
 rw[List.take_succ_eq_append_getElem (by simpa using h)];rfl
theorem EL (s:ByteArray) (k:Nat) (h:s.size≤k):s.data.toList.take k=s.data.toList:=List.take_of_length_le (by rw[←Lib.size_eq];exact h)
theorem MZ (s:ByteArray) (h:0<s.size):∃ t,s.data.toList=s[0] :: t:=by
 have h':0<s.data.toList.length:=by rw[←Lib.size_eq];exact h
 cases hl:s.data.toList with
 | nil=>rw[hl] at h';simp at h'
 | cons a t =>
   refine⟨t,?_⟩;have:s[0]=s.data.toList[0]:=rfl;rw[this];simp[hl]
theorem DL {s:ByteArray} (h:0<s.size) (h64:s.size≤64):nmB s.data.toList=(ldB (s[0].toNat) && s.data.toList.all nmc):=by
 have h':s.data.toList.length≤64:=by rw[←Lib.size_eq];exact h64
 obtain⟨t,ht⟩:=MZ s h;unfold nmB;rw[decide_eq_true h',ht];simp
theorem yU {s:ByteArray} (h:s.size=0):nmB s.data.toList=false:=by
 have:s.data.toList=[]:=List.eq_nil_of_length_eq_zero (by rw[←Lib.size_eq];exact h);rw[this];rfl
theorem DK {s:ByteArray} (h:64<s.size):nmB s.data.toList=false:=by
 unfold nmB;rw[decide_eq_false (by rw[←Lib.size_eq];omega)];rfl
theorem qA {s:ByteArray} {k:Nat} (h:k<s.size) (hc:nmc s[k]=false):s.data.toList.all nmc=false:=by
 rw[Bool.eq_false_iff];intro ha
 have := List.all_eq_true.1 ha s[k] (by have : s[k] = s.data.toList[k]'(by simpa using h) := rfl
                                        rw[this];exact List.getElem_mem _)
 rw[hc] at this;cases this
theorem RQ (s:ByteArray) (w:World) (hs:s.size≤maxLen) :
 Calls Tryz.prog 31 #[.string s] w fun e w'=>e=.returned (.bool (nmB s.data.toList))∧w=w':=by
 unfold maxLen at hs;by_cases h0:s.size=0
 ·have hn:=yU h0;generalize nmB s.data.toList=r at *;have e0:s.toList=[]:=by rw[Lib.toList_data];exact List.eq_nil_of_length_eq_zero (by rw[←Lib.size_eq];exact h0)
  have HN:=zh hn;clear hn
  go_enter Tryz.func31,Tryz.ntmps31
  go_wp2
  go_ret;exact⟨bM HN.out.symm,rfl⟩
 ·have e0:s.toList.isEmpty=false:=by
   rw[Lib.toList_data,List.isEmpty_eq_false_iff];intro h;rw[Lib.size_eq,h] at h0;simp at h0
  have H0:0<s.size:=by omega
  by_cases h64:64<s.size
  ·have HN:=zh (DK h64);generalize nmB s.data.toList=r at *
   go_enter Tryz.func31,Tryz.ntmps31
   go_wp2
   go_ret;exact⟨bM HN.out.symm,rfl⟩
  ·have HN:=zh (DL H0 zo);generalize nmB s.data.toList=r at *
   cases hld:ldB (s[0].toNat)
   ·rw[hld] at HN;have HL:=zh hld;clear hld
    go_enter Tryz.func31,Tryz.ntmps31
    go_wp2_with (go_at_call 65;refine (dA _ _).mono ?_;rintro e w' ⟨rfl,rfl⟩;rw[HL.out])
    go_ret;exact⟨bM (by rw[HN.out];rfl),rfl⟩
   ·rw[hld] at HN;have HL:=zh hld;clear hld
    go_enter Tryz.func31,Tryz.ntmps31
    go_wp2_with (go_at_call 65;refine (dA _ _).mono ?_;rintro e w' ⟨rfl,rfl⟩;rw[HL.out])
    go_loop [19] (fun i=>∃ k:Nat,k≤s.size∧i=.int .i64 k∧Hid ((s.data.toList.take k).all nmc=true)) (fun i=>s.size-(intOf i).toNat)
    case atStart=>exact⟨0,by omega,rfl,rfl⟩
    case round =>
     obtain⟨k,hk,rfl,HA⟩:=hrel;by_cases hlt:k<s.size
     ·have HS:=zh (lV s k hlt)
      cases hl:ldB (s[k].toNat)
      ·have HK:=zh (BM hl);have HL2:=zh hl;clear hl
       cases hd:decide (Lib.indexByte [46,95,45] s[k]<0)
       ·rw[hd] at HK;have hd2:¬ Lib.indexByte [46,95,45] s[k]<0:=of_decide_eq_false hd;clear hd
        go_wp2_with (first | (go_at_call 65;refine (dA _ _).mono ?_;rintro e w' ⟨rfl,rfl⟩;rw[HL2.out]) | (go_at_call 66;refine (fU _ _ _).mono ?_;rintro e w' ⟨rfl,rfl⟩;rw[TF]))
        go_round
        case rel=>exact⟨k+1,by omega,by go_num,by show _=true;rw[HS.out,List.all_append,HA.out];simp[HK.out]⟩
        case measure=>simp[intOf];omega
       ·rw[hd] at HK;have hd2:Lib.indexByte [46,95,45] s[k]<0:=of_decide_eq_true hd;clear hd
        go_wp2_with (first | (go_at_call 65;refine (dA _ _).mono ?_;rintro e w' ⟨rfl,rfl⟩;rw[HL2.out]) | (go_at_call 66;refine (fU _ _ _).mono ?_;rintro e w' ⟨rfl,rfl⟩;rw[TF]))
        go_ret;exact⟨bM (by rw[HN.out,qA hlt HK.out];rfl),rfl⟩
      ·have HK:=zh (LF hl);have HL2:=zh hl;clear hl
       go_wp2_with (go_at_call 65;refine (dA _ _).mono ?_;rintro e w' ⟨rfl,rfl⟩;rw[HL2.out])
       go_round
       case rel=>exact⟨k+1,by omega,by go_num,by show _=true;rw[HS.out,List.all_append,HA.out];simp[HK.out]⟩
       case measure=>simp[intOf];omega
     ·go_wp2
      go_ret;exact⟨bM (by rw[HN.out,←EL s k zo,HA.out];rfl),rfl⟩
def QM (n:Nat):UInt8:=if n<10 then 48+n.toUInt8 else 55+n.toUInt8
def sL (c:UInt8):List UInt8:=if lU c.toNat then [c] else [37,QM (c.toNat / 16),QM (c.toNat % 16)]
def dK (l:List UInt8):List UInt8:=if l=[] then [126] else l.flatMap sL
theorem oY {c:UInt8} (h:lU c.toNat=true):sL c=[c]:=by unfold sL;rw[if_pos h]
theorem EH {c:UInt8} (h:lU c.toNat=false):sL c=[37,QM (c.toNat / 16),QM (c.toNat % 16)]:=by unfold sL;rw[if_neg (by rw[h];simp)]
theorem MV (c:UInt8):(sL c).length≤3:=by unfold sL;split <;> simp
theorem BZ (l:List UInt8):(l.flatMap sL).length≤3*l.length:=by
 induction l with
 | nil=>simp
 | cons a t ih=>have:=MV a;simp only[List.flatMap_cons,List.length_append,List.length_cons];omega
theorem qM (l:List UInt8):(dK l).length≤3*l.length+1:=by
 unfold dK;split
 ·simp
 ·have:=BZ l;omega
theorem sO (s:ByteArray) (k:Nat) (h:k<s.size):s.data.toList.take (k+1)=s.data.toList.take k++[s[k]]:=by
 rw[List.take_succ_eq_append_getElem (by simpa using h)];rfl
theorem zO (s:ByteArray) (k:Nat) (h:k<s.size):(s.data.toList.take (k+1)).flatMap sL=(s.data.toList.take k).flatMap sL++sL s[k]:=by
 rw[sO s k h,List.flatMap_append];simp
theorem mQ (s:ByteArray):s.data.toList.take s.size=s.data.toList:=List.take_of_length_le (by rw[←Lib.size_eq];exact Nat.le_refl _)
theorem Tryz.info5:(Tryz.prog.info? 5).map (fun i=>(i.zero,i.size,i.bytes))=some (some (.int .u8 0),1,1):=by kernel_rfl
theorem pW {w:World} {base e:Nat} {v:Value} {l:List UInt8} (h:w.ownsRow base e 1 v l.length (Lib.byteCells l)) :
 (v=.slice none 0 0∧l=[])∨∃ g cap,v=.slice (some ⟨g,0,none⟩) l.length cap∧base≤g∧g<w.heap.size∧∀ j (hj:j<l.length),w.cell? ⟨g,j,none⟩=some (.int .u8 (l[j].toNat:Int)):=by
 obtain⟨_,⟨rfl,h0⟩ | ⟨g,cap,cur,rfl,hb,hg,hle,_,hsz,htk⟩⟩:=h
 ·exact .inl ⟨rfl,List.eq_nil_of_length_eq_zero h0⟩
 ·refine .inr ⟨g,cap,rfl,hb,(Array.getElem?_eq_some_iff.1 hg).1,fun j hj=>?_⟩;rw[cell_of_row w g j cur e _ hg];have h1:(cur.toList.take (l.length*1))[j]? = some (.int .u8 (l[j].toNat:Int)):=by rw[htk];simp[Lib.byteCells,List.getElem?_eq_getElem hj]
  rw[List.getElem?_take,if_pos zo] at h1;simpa using h1
theorem iB {w:World} {base e:Nat} {v:Value} {l:List UInt8} (h:w.ownsRow base e 1 v l.length (Lib.byteCells l)) :
 (convert 22 9 v).run Tryz.prog w=.ok (.string ⟨l.toArray⟩) w:=by
 rcases pW h with ⟨rfl,rfl⟩ | ⟨g,cap,rfl,_,_,hc⟩
 ·rw[run_convert_bytes_string w 22 9 5 none 0 0 Tryz.underlying22 Tryz.underlying5 Tryz.underlying9];kernel_rfl
 ·exact run_convert_bytes_back w 22 9 5 _ cap l Tryz.underlying22 Tryz.underlying5 Tryz.underlying9 (fun j hj=>by rw[Addr.add_mid,Nat.zero_add];exact hc j hj)
def aCd (base:Nat) (w:World) (l:List UInt8) (e:Ending) (w':World):Prop:=∃ v,e=.returned v∧Hid (w'.ownsRow base 5 1 v l.length (Lib.byteCells l))∧Below base w w'
theorem nK (n:Nat) (h:n<16) (w:World):(Instr.index 9 (.string ⟨#[48,49,50,51,52,53,54,55,56,57,65,66,67,68,69,70]⟩) (.int .u8 (n:Int))).run Tryz.prog w=.ok (.int .u8 ((QM n).toNat:Int)) w:=by
 rcases (by omega:n=0∨n=1∨n=2∨n=3∨n=4∨n=5∨n=6∨n=7∨n=8∨n=9∨n=10∨n=11∨n=12∨n=13∨n=14∨n=15) with rfl | rfl | rfl | rfl | rfl | rfl | rfl | rfl | rfl | rfl | rfl | rfl | rfl | rfl | rfl | rfl <;> kernel_rfl
theorem uK (w:World) (L:List Value) (t:TypeId):∀ j u,L[j]? = some u→((w.alloc (.cells L.toArray t)).drew).cell? ((⟨w.heap.size,0,none⟩:Addr).add j)=some u:=by
 intro j u hj;have h:((w.alloc (.cells L.toArray t)).drew).heap[w.heap.size]? = some (.cells L.toArray t (0,0)):=heap_alloc_new w _;rw[Addr.add_mid,Nat.zero_add,cell_of_row _ w.heap.size j _ t (0,0) h];simpa using hj
theorem kG {P:Program} {w:World} {ops:Array Oper} {o:Oper} {a:Act} {K:Act→World→Prop} {Q:Exit→Act→World→Prop} {E:Prop} (hgd:o.guard=none) (s x:Operand) (t:TypeId)
 (ho:o.op=.call { callee:=.builtin .append,args:=#[s,x],argTypes:=#[t,t] })
 (base:Nat) (e:TypeId) (i:TypeInfo) (z:Value) (size bytes:Nat) (ht:P.underlying t=some (.slice e)) (hi:P.info? e=some i) (hz:i.zero=some z)
 (hsize:i.size=size) (hby:i.bytes=bytes) (hzs:z.cells.size=size) (hsz:0<size)
 (v:Value) (n:Nat) (xs:List Value) (hs:a.eval s=v) (hown:w.ownsRow base e size v n xs)
 (ad:Addr) (m c:Nat) (news:List Value) (hx:a.eval x=.slice (some ad) m c) (hl:news.length=m*size) (hnews:∀ j u,news[j]? = some u→w.cell? (ad.add j)=some u) (h1:∀ u ∈ news,u.oneCell'=true)
 (h63:n+m≤maxLen) (hbytes:(n+m)*bytes≤140737488355328) (hbase:base≤w.heap.size)
 (h:∀ v' w',w'.ownsRow base e size v' (n+m) (xs++news)→w.grownBy w' v.ownBlock→(v'=.slice none 0 0↔v=.slice none 0 0∧m=0)→K (a.put o.dst v') w') :
 if Region.wanted o (yielded ops a.tmps)=true then Oper.wp P o a w K Q else E:=by
 have hw:Region.wanted o (yielded ops a.tmps)=true:=by simp[Region.wanted,hgd]
 rw[if_pos hw];exact wp_append_own w s x t ho base e i z size bytes ht hi hz hsize hby hzs hsz v n xs hs hown ad m c news hx hl hnews h1 h63 hbytes hbase h
theorem aAe:∀ c:Fin 256,bits .and .u8 (c.val:Int) 15=(c.val:Int) % 16:=by decide +kernel
theorem aAf (c:UInt8):bits .and .u8 (c.toNat:Int) 15=(c.toNat:Int) % 16:=aAe ⟨c.toNat,UInt8.toNat_lt _⟩
theorem dG {w:World} {base e size:Nat} {v:Value} {n:Nat} {xs:List Value} (h:w.ownsRow base e size v n xs):∀ k,v.ownBlock=some k→base≤k:=fun k hk=>(h.lt k hk).1
theorem lW (base:Nat) (v:Value) (xs:List UInt8) (s:ByteArray) (w:World) (hown:w.ownsRow base 5 1 v xs.length (Lib.byteCells xs)) (hbase:base≤w.heap.size) (hlen:xs.length+3*s.size+1≤1099511627776) :
 Calls Tryz.prog 43 #[v,.string s] w (aCd base w (xs++dK s.data.toList)):=by
 have CM:=zh hown;clear hown;obtain⟨i0,hi0,hz0,hz1,hz2⟩:=info_parts Tryz.info5;have HI0:=zh hi0;have HZ0:=zh hz0;have HZ1:=zh hz1;have HZ2:=zh hz2;clear hi0 hz0 hz1 hz2;by_cases h0:s.size=0
 ·have e0:s.toList=[]:=by rw[Lib.toList_data];exact List.eq_nil_of_length_eq_zero (by rw[←Lib.size_eq];exact h0)
  have HW:=zh (show dK s.data.toList=[126] by rw[←Lib.toList_data,e0];rfl);generalize dK s.data.toList=wl at *;clear h0
  go_enter Tryz.func43,Tryz.ntmps43
  go_wp2_with (at_builtin;(refine Lib.wpList_append_own_string _ rfl (.tmp 9) (.const (.string ⟨#[126]⟩)) 22 9 rfl base 5 i0 Tryz.underlying22 Tryz.underlying9 HI0.out HZ0.out HZ1.out HZ2.out _ _ _ rfl CM.out ⟨#[126]⟩ rfl (by unfold maxLen;show xs.length+1≤_;omega) (by show xs.length+1≤_;omega) hbase ?_;intro v' w1 hown1 hg1 _;have HO1:=zh hown1;clear hown1))
  go_ret;refine⟨v',rfl,?_,(Below.refl _ _).grown hg1 hbase (dG CM.out)⟩;rw[HW.out];have:=HO1.out;rw[show (⟨#[126]⟩:ByteArray).size=1 from rfl] at this;show World.ownsRow _ _ _ _ _ _ _;simpa [Lib.byteCells_append,Lib.strCells_eq] using this
 ·have e0:s.toList.isEmpty=false:=by
   rw[Lib.toList_data,List.isEmpty_eq_false_iff];intro h;rw[Lib.size_eq,h] at h0;simp at h0
  have HW:=zh (show dK s.data.toList=(s.data.toList.take s.size).flatMap sL by
   unfold dK;rw[mQ,if_neg (by intro h;rw[Lib.size_eq,h] at h0;simp at h0)])
  generalize dK s.data.toList=wl at *;clear h0
  go_enter Tryz.func43,Tryz.ntmps43
  go_wp2_with fail
  go_loopw [0,13] (fun b i wr=>∃ k:Nat,k≤s.size∧i=.int .i64 k∧Hid (wr.ownsRow base 5 1 b (xs++(s.data.toList.take k).flatMap sL).length (Lib.byteCells (xs++(s.data.toList.take k).flatMap sL)))∧Below base w wr) (fun _ i _=>s.size-(intOf i).toNat)
  case atStart=>exact⟨0,by omega,rfl,by show World.ownsRow _ _ _ _ _ _ _;simpa using CM.out,Below.refl _ _⟩
  case round =>
   obtain⟨k,hk,rfl,hown,hbe⟩:=hrel;by_cases hlt:k<s.size
   ·have HS:=zh (zO s k hlt);have hle:=BZ (s.data.toList.take k);have hle2:(s.data.toList.take k).length≤k:=List.length_take_le _ _;have hbs:=Nat.le_trans hbase hbe.size;generalize (s.data.toList.take k).flatMap sL=fl at *;clear CM
    cases hp:lU (s[k].toNat)
    ·have HK:=zh (EH hp);have HP:=zh hp;clear hp;have hc256:s[k].toNat<256:=UInt8.toNat_lt _;have hx1:=nK (s[k].toNat / 16) zo;have hx2:=nK (s[k].toNat % 16) zo;rw[show ((s[k].toNat / 16:Nat):Int)=(s[k].toNat:Int) / 16 by omega] at hx1;rw[show ((s[k].toNat % 16:Nat):Int)=(s[k].toNat:Int) % 16 by omega] at hx2;have hand:=aAf s[k]
     go_wp2_with (go_at_call 80;refine (iP _ _).mono ?_;rintro e w' ⟨rfl,rfl⟩;rw[HP.out])
     go_region_held3 (fun _=>True) (trivial) ((refine kG rfl (.tmp 25) (.tmp 32) 22 (by rfl) base 5 i0 (.int .u8 0) 1 1 Tryz.underlying22 HI0.out HZ0.out HZ1.out HZ2.out rfl (by decide) _ _ _ (by rfl) (by exact (hown.out.alloc _).drew) ⟨wr.heap.size,0,none⟩ 3 3 (Lib.byteCells [37,QM (s[k].toNat / 16),QM (s[k].toNat % 16)]) (by rfl) (by rfl) (by exact uK _ _ _) (Lib.byteCells_one _) (by unfold maxLen;simp only[List.length_append];omega) (by simp only[List.length_append];omega) (by simp;omega) ?_;intro v' w1 hown1 hg1 _;have HO1:=zh hown1;clear hown1))
     all_goals
      go_wp2
      go_roundw
      case rel =>
       refine⟨k+1,by omega,by go_num,?_,?_⟩
       ·rw[HS.out,HK.out];have:=HO1.out;show World.ownsRow _ _ _ _ _ _ _;simpa [Lib.byteCells_append,Lib.byteCells,Nat.add_assoc] using this
       ·exact ((hbe.alloc hbs _).drew).grown hg1 (by simp;omega) (dG hown.out)
      case measure=>simp[intOf];omega
    ·have HK:=zh (oY hp);have HP:=zh hp;clear hp
     go_wp2_with (first
      | (go_at_call 80;refine (iP _ _).mono ?_;rintro e w' ⟨rfl,rfl⟩;rw[HP.out])
      | (at_builtin;refine wpList_append_own _ rfl (.tmp 21) (.tmp 23) 22 rfl base 5 i0 (.int .u8 0) 1 1 Tryz.underlying22 HI0.out HZ0.out HZ1.out HZ2.out rfl (by decide) _ _ _ rfl (hown.out.alloc _) ⟨wr.heap.size,0,none⟩ 1 1 [.int .u8 (s[k].toNat:Int)] rfl rfl (cell_one_new _ _ _) (by intro u hu;simp at hu;subst hu;rfl) (by unfold maxLen;simp only[List.length_append];omega) (by simp only[List.length_append];omega) (by simp;omega) ?_;intro v' w1 hown1 hg1 _;have HO1:=zh hown1;clear hown1))
     go_roundw
     case rel =>
      refine⟨k+1,by omega,by go_num,?_,?_⟩
      ·rw[HS.out,HK.out];have:=HO1.out;show World.ownsRow _ _ _ _ _ _ _;simpa [Lib.byteCells_append,Lib.byteCells,Nat.add_assoc] using this
      ·exact (hbe.alloc hbs _).grown hg1 (by simp;omega) (dG hown.out)
     case measure=>simp[intOf];omega
   ·obtain rfl:k=s.size:=by omega
    go_wp2
    go_ret;exact⟨u0,rfl,by rw[HW.out];exact hown,hbe⟩
def hexD:List UInt8:=[48,49,50,51,52,53,54,55,56,57,65,66,67,68,69,70]
def lL (c:UInt8):Nat:=if 48≤c.toNat∧c.toNat≤57 then c.toNat-48 else if 65≤c.toNat∧c.toNat≤70 then c.toNat-55 else 16
theorem vP (c:UInt8):lL c≤16:=by unfold lL;split <;> (try split) <;> omega
theorem GI:∀ c:Fin 256,Lib.indexByte hexD (UInt8.ofNat c.val)=if lL (UInt8.ofNat c.val)=16 then -1 else (lL (UInt8.ofNat c.val):Int):=by decide +kernel
theorem zH (c:UInt8):Lib.indexByte hexD c=if lL c=16 then -1 else (lL c:Int):=by
 have h:=GI ⟨c.toNat,UInt8.toNat_lt _⟩;simpa using h
def WC (a b:UInt8):Option UInt8 :=
 if lL a=16∨lL b=16 then none else if lU ((16*lL a+lL b:Nat):Int) then none else some (UInt8.ofNat (16*lL a+lL b))
def uB:List UInt8→Option UInt8
 | a :: b :: _=>WC a b
 | _=>none
def kB:List UInt8→Option (List UInt8)
 | []=>some []
 | [c]=>if lU c.toNat then some [c] else none
 | [c,d]=>if lU c.toNat then (kB [d]).map (c :: ·) else none
 | c :: a :: b :: r =>
   if lU c.toNat then (kB (a :: b :: r)).map (c :: ·)
   else if c=37 then (match WC a b with | some v=>(kB r).map (v :: ·) | none=>none) else none
def eD (l:List UInt8):Option (List UInt8):=if l=[] then none else if l=[126] then some [] else kB l
theorem KR:lU 37=false:=by decide
theorem tG {c:UInt8} (h:lU c.toNat=true) (t:List UInt8):kB (c :: t)=(kB t).map (c :: ·):=by
 match t with
 | []=>simp[kB,h]
 | [d]=>simp[kB,h]
 | a :: b :: r=>simp[kB,h]
theorem uW (t:List UInt8):kB (37 :: t)=match uB t with | some v=>(kB (t.drop 2)).map (v :: ·) | none=>none:=by
 match t with
 | []=>simp[kB,uB,KR]
 | [d]=>simp[kB,uB,KR]
 | a :: b :: r=>simp[kB,uB,KR]
theorem tH {c:UInt8} (h:lU c.toNat=false) (h2:c≠37) (t:List UInt8):kB (c :: t)=none:=by
 match t with
 | []=>simp[kB,h]
 | [d]=>simp[kB,h]
 | a :: b :: r=>simp[kB,h,h2]
theorem zL:(⟨#[48,49,50,51,52,53,54,55,56,57,65,66,67,68,69,70]⟩:ByteArray).data.toList=hexD:=rfl
theorem NF (c:UInt8):((c.toNat:Int)).toNat.toUInt8=c:=by simp
theorem QT {s:ByteArray} (h:2≤s.size):uB s.data.toList=WC s[0] s[1]:=by
 obtain⟨⟨l⟩⟩:=s
 match l,h with
 | a :: b :: t,_=>rfl
theorem GQ {s:ByteArray} (h:s.size<2):uB s.data.toList=none:=by
 obtain⟨⟨l⟩⟩:=s
 match l,h with
 | [],_=>rfl
 | [a],_=>rfl
def OA (r:Option UInt8) (w:World) (e:Ending) (w':World):Prop :=
 (match r with | some v=>e=.returned (.tuple #[.int .u8 (v.toNat:Int),.bool true]) | none=>e=.returned (.tuple #[.int .u8 0,.bool false]))∧w=w'
theorem VD:∀ a b:Fin 16,(bits .or .i64 ((a.val:Int)*16) (b.val:Int))=((16*a.val+b.val:Nat):Int):=by decide +kernel
theorem ZL (a b:Nat) (ha:a<16) (hb:b<16):bits .or .i64 ((a:Int)*16) (b:Int)=((16*a+b:Nat):Int):=VD ⟨a,ha⟩ ⟨b,hb⟩
theorem mI {c:UInt8} (h:lL c=16) (w:World) :
 Calls Tryz.prog 66 #[.string ⟨#[48,49,50,51,52,53,54,55,56,57,65,66,67,68,69,70]⟩,.int .u8 (c.toNat:Int)] w fun e w'=>e=.returned (.int .i64 (-1))∧w=w' :=
 (fU _ _ w).mono fun e w' ⟨he,hw⟩=>⟨by rw[he,NF,zL,zH,if_pos h],hw⟩
theorem mH {c:UInt8} {x:Nat} (h:lL c=x) (hx:x≠16) (w:World) :
 Calls Tryz.prog 66 #[.string ⟨#[48,49,50,51,52,53,54,55,56,57,65,66,67,68,69,70]⟩,.int .u8 (c.toNat:Int)] w fun e w'=>e=.returned (.int .i64 (x:Int))∧w=w' :=
 (fU _ _ w).mono fun e w' ⟨he,hw⟩=>⟨by rw[he,NF,zL,zH,if_neg (by rw[h];exact hx),h],hw⟩
theorem rY (s:ByteArray) (w:World) (hs:s.size≤1099511627776) :
 Calls Tryz.prog 148 #[.string s] w (OA (uB s.data.toList) w):=by
 by_cases h2:s.size<2
 ·have HR:=zh (GQ h2);generalize uB s.data.toList=r at *
  go_enter Tryz.func148,Tryz.ntmps148
  go_wp2_with fail;go_ret2;exact⟨by rw[HR.out];rfl,rfl⟩
 ·have HR:=zh (QT (s:=s) zo);generalize uB s.data.toList=r at *;have h0:0<s.size:=by omega
  have h1:1<s.size:=by omega
  have hl0:=vP s[0];have hl1:=vP s[1];have HV:=zh (show WC s[0] s[1]=if lL s[0]=16∨lL s[1]=16 then none else if lU ((16*lL s[0]+lL s[1]:Nat):Int) then none else some (UInt8.ofNat (16*lL s[0]+lL s[1])) from rfl);obtain⟨x,hx⟩:∃ x,lL s[0]=x:=⟨_,rfl⟩;obtain⟨y,hy⟩:∃ y,lL s[1]=y:=⟨_,rfl⟩;rw[hx,hy] at HV;rw[hx] at hl0;rw[hy] at hl1;have HX:=zh hx;have HY:=zh hy;clear hx hy;by_cases hx:x=16
  ·have HC1:=fun w=>zh (mI (HX.out.trans hx) w);have HRN:Hid (r=none):=by show _=_;rw[HR.out,HV.out,if_pos (.inl hx)]
   clear HR HV;by_cases hy:y=16
   ·have HC2:=fun w=>zh (mI (HY.out.trans hy) w);clear hx hy
    go_enter Tryz.func148,Tryz.ntmps148
    go_wp2_with fail;refine (HC1 _).out.mono ?_;rintro e w' ⟨rfl,rfl⟩;go_wp2_with fail;refine (HC2 _).out.mono ?_;rintro e w' ⟨rfl,rfl⟩;go_wp2_with fail;go_ret2;exact⟨by rw[HRN.out];rfl,rfl⟩
   ·have HC2:=fun w=>zh (mH HY.out hy w);clear hx hy
    go_enter Tryz.func148,Tryz.ntmps148
    go_wp2_with fail;refine (HC1 _).out.mono ?_;rintro e w' ⟨rfl,rfl⟩;go_wp2_with fail;refine (HC2 _).out.mono ?_;rintro e w' ⟨rfl,rfl⟩;go_wp2_with fail;go_ret2;exact⟨by rw[HRN.out];rfl,rfl⟩
  ·have HC1:=fun w=>zh (mH HX.out hx w);by_cases hy:y=16
   ·have HC2:=fun w=>zh (mI (HY.out.trans hy) w);have HRN:Hid (r=none):=by show _=_;rw[HR.out,HV.out,if_pos (.inr hy)]
    clear HR HV hx hy
    go_enter Tryz.func148,Tryz.ntmps148
    go_wp2_with fail;refine (HC1 _).out.mono ?_;rintro e w' ⟨rfl,rfl⟩;go_wp2_with fail;refine (HC2 _).out.mono ?_;rintro e w' ⟨rfl,rfl⟩;go_wp2_with fail;go_ret2;exact⟨by rw[HRN.out];rfl,rfl⟩
   ·have HC2:=fun w=>zh (mH HY.out hy w);have ho:=ZL x y zo zo;have hlt:16*x+y<256:=by omega
    have HV2:Hid (r=if lU ((16*x+y:Nat):Int) then none else some (UInt8.ofNat (16*x+y))):=by
     show _=_;rw[HR.out,HV.out,if_neg (fun h=>h.elim hx hy)]
    clear HR HV hx hy;have HO:=zh ho;clear ho
    go_enter Tryz.func148,Tryz.ntmps148
    go_wp2_with fail;refine (HC1 _).out.mono ?_;rintro e w' ⟨rfl,rfl⟩;go_wp2_with fail;refine (HC2 _).out.mono ?_;rintro e w' ⟨rfl,rfl⟩;have ho:=HO.out;go_wp2_with fail;have hcast:((16*x+y:Nat):Int)=16*(x:Int)+(y:Int):=by omega
    rw[hcast] at HV2;clear hcast ho HO
    cases hp:lU (16*(x:Int)+(y:Int))
    ·have HP:=zh hp;clear hp;refine (iP _ _).mono ?_;rintro e w' ⟨rfl,rfl⟩;rw[HP.out];go_wp2_with fail;go_ret2;have hv:((UInt8.ofNat (16*x+y)).toNat:Int)=16*(x:Int)+(y:Int):=by
      rw[UInt8.toNat_ofNat_of_lt' (by exact hlt)];omega
     exact⟨by rw[HV2.out,HP.out];show _=Ending.returned (.tuple #[.int .u8 ((UInt8.ofNat (16*x+y)).toNat:Int),.bool true]);rw[hv];rfl,rfl⟩
    ·have HP:=zh hp;clear hp;refine (iP _ _).mono ?_;rintro e w' ⟨rfl,rfl⟩;rw[HP.out];go_wp2_with fail;go_ret2;exact⟨by rw[HV2.out,HP.out];rfl,rfl⟩
def EV (r:Option (List UInt8)) (w:World) (e:Ending) (w':World):Prop :=
 (match r with | some l=>e=.returned (.tuple #[.string ⟨l.toArray⟩,.bool true]) | none=>e=.returned (.tuple #[.string ⟨#[]⟩,.bool false]))∧Below w.heap.size w w'
theorem dM (s:ByteArray) (k:Nat) (h:k<s.size):s.data.toList.drop k=s[k] :: s.data.toList.drop (k+1):=by
 rw[List.drop_eq_getElem_cons (by simpa using h)];rfl
theorem lQ {s:ByteArray} {k:Nat} {acc:List UInt8} {r:Option (List UInt8)} (hk:k<s.size) (h:r=(kB (s.data.toList.drop k)).map (acc ++ ·)) (hp:lU (s[k].toNat)=true) :
 r=(kB (s.data.toList.drop (k+1))).map ((acc++[s[k]]) ++ ·):=by
 rw[h,dM s k hk,tG hp]
 cases kB (s.data.toList.drop (k+1)) <;> simp
theorem lR {s:ByteArray} {k:Nat} {acc:List UInt8} {r:Option (List UInt8)} (hk:k<s.size) (h:r=(kB (s.data.toList.drop k)).map (acc ++ ·)) (hp:lU (s[k].toNat)=false) (h37:s[k]≠37):r=none:=by
 rw[h,dM s k hk,tH hp h37];rfl
theorem kE {s:ByteArray} {k:Nat} {acc:List UInt8} {r:Option (List UInt8)} (hk:k<s.size) (h:r=(kB (s.data.toList.drop k)).map (acc ++ ·)) (h37:s[k]=37) (he:uB (s.data.toList.drop (k+1))=none):r=none:=by
 rw[h,dM s k hk,h37,uW,he];rfl
theorem pH {s:ByteArray} {k:Nat} {acc:List UInt8} {r:Option (List UInt8)} {v:UInt8} (hk:k<s.size) (h:r=(kB (s.data.toList.drop k)).map (acc ++ ·)) (h37:s[k]=37) (he:uB (s.data.toList.drop (k+1))=some v) :
 k+3≤s.size∧r=(kB (s.data.toList.drop (k+3))).map ((acc++[v]) ++ ·):=by
 constructor
 ·have hl:2≤(s.data.toList.drop (k+1)).length:=by
   match s.data.toList.drop (k+1),he with
   | [],he=>cases he
   | [_],he=>cases he
   | _ :: _ :: _,_=>simp
  rw[List.length_drop,←Lib.size_eq] at hl;omega
 ·rw[h,dM s k hk,h37,uW,he];simp only[List.drop_drop]
  cases kB (s.data.toList.drop (k+3)) <;> simp
theorem JF {s:ByteArray} {acc:List UInt8} {r:Option (List UInt8)} (h:r=(kB (s.data.toList.drop s.size)).map (acc ++ ·)):r=some acc:=by
 rw[h,List.drop_of_length_le (by rw[←Lib.size_eq];exact Nat.le_refl _)];simp[kB]
theorem zX (s:ByteArray) (a:Nat):(s.extract a s.size).data.toList=s.data.toList.drop a:=by
 rw[Lib.extract_data,List.take_of_length_le (by rw[List.length_drop,←Lib.size_eq];exact Nat.le_refl _)]
theorem zS {s:ByteArray} {a:Nat} (h:uB (s.data.toList.drop a)=none) (hs:s.size≤1099511627776) (w:World) :
 Calls Tryz.prog 148 #[.string (s.extract a s.size)] w fun e w'=>e=.returned (.tuple #[.int .u8 0,.bool false])∧w=w' :=
 (rY (s.extract a s.size) w (by rw[ByteArray.size_extract];omega)).mono fun e w' hr=>by
  unfold OA at hr;rw[zX,h] at hr;exact hr
theorem zR {s:ByteArray} {a:Nat} {v:UInt8} (h:uB (s.data.toList.drop a)=some v) (hs:s.size≤1099511627776) (w:World) :
 Calls Tryz.prog 148 #[.string (s.extract a s.size)] w fun e w'=>e=.returned (.tuple #[.int .u8 (v.toNat:Int),.bool true])∧w=w' :=
 (rY (s.extract a s.size) w (by rw[ByteArray.size_extract];omega)).mono fun e w' hr=>by
  unfold OA at hr;rw[zX,h] at hr;exact hr
theorem jR {s:ByteArray} (h:s.size=0):s.data.toList=[]:=List.eq_nil_of_length_eq_zero (by rw[←Lib.size_eq];exact h)
theorem uG {s:ByteArray} (h:s.size≠0):s.data.toList≠[]:=fun e=>h (by rw[Lib.size_eq,e];rfl)
theorem IC (s:ByteArray) (w:World) (hs:s.size≤1099511627776) :
 Calls Tryz.prog 119 #[.string s] w (EV (eD s.data.toList) w):=by
 by_cases h0:s.size=0
 ·have HR:=zh (show eD s.data.toList=none by rw[jR h0];rfl);have e0:s.toList=[]:=by rw[Lib.toList_data];exact jR h0
  generalize eD s.data.toList=r at *;clear h0
  go_enter Tryz.func119,Tryz.ntmps119
  go_wp2_with fail;go_ret2;exact⟨by rw[HR.out];rfl,Below.refl _ _⟩
 ·have hne:=uG h0;have e0:s.toList.isEmpty=false:=by
   rw[Lib.toList_data,List.isEmpty_eq_false_iff];exact hne
  by_cases ht:s.data.toList=[126]
  ·have HR:=zh (show eD s.data.toList=some [] by rw[ht];rfl);have e1:(s.toList == [126])=true:=by rw[Lib.toList_data,ht];rfl
   generalize eD s.data.toList=r at *;clear h0 hne ht
   go_enter Tryz.func119,Tryz.ntmps119
   go_wp2_with fail;go_ret2;exact⟨by rw[HR.out];rfl,Below.refl _ _⟩
  ·have HR:=zh (show eD s.data.toList=(kB (s.data.toList.drop 0)).map ([] ++ ·) by
    unfold eD;rw[if_neg hne,if_neg ht,List.drop_zero];simp)
   have e1:(s.toList == [126])=false:=by rw[Lib.toList_data,beq_eq_false_iff_ne];exact ht
   generalize eD s.data.toList=r at *;obtain⟨i0,hi0,hz0,hz1,hz2⟩:=info_parts Tryz.info5;have HI0:=zh hi0;have HZ0:=zh hz0;have HZ1:=zh hz1;have HZ2:=zh hz2;clear hi0 hz0 hz1 hz2 h0 hne ht
   go_enter Tryz.func119,Tryz.ntmps119
   go_wp2_with (at_make;refine wpList_make_own _ rfl _ _ 22 rfl w.heap.size 5 i0 (.int .u8 0) 1 Tryz.underlying22 HI0.out HZ0.out HZ1.out _ _ _ s.size rfl rfl zo (by rw[HZ2.out];omega) (by unfold maxLen;omega) zl ?_;intro w0 hown0 hg0;have HO0:=zh hown0;clear hown0)
   have hb0:Below w.heap.size w w0:=(Below.refl _ _).grown hg0 zl (by intro k hk;cases hk);clear hg0
   go_loopw [4,5] (fun v i wr=>∃ (k:Nat) (acc:List UInt8),k≤s.size∧i=.int .i64 k∧acc.length≤k∧Hid (r=(kB (s.data.toList.drop k)).map (acc ++ ·))∧Hid (wr.ownsRow w.heap.size 5 1 v acc.length (Lib.byteCells acc))∧Below w.heap.size w wr) (fun _ i _=>s.size-(intOf i).toNat)
   case atStart=>exact⟨0,[],by omega,rfl,by simp,HR.out,HO0.out,hb0⟩
   case round =>
    clear HR HO0 hb0;obtain⟨k,acc,hk,rfl,hal,HA,hown,hbe⟩:=hrel;have hbs:=hbe.size;by_cases hlt:k<s.size
    ·by_cases h37:s[k]=37
     ·have b37:((s[k].toNat:Int) == 37)=true:=by rw[h37];rfl
      cases he:uB (s.data.toList.drop (k+1))
      ·have HE:=fun w=>zh (zS he hs w);have HN:=zh (kE hlt HA.out h37 he);clear he h37 HA
       go_wp2_with (go_at_call 148;refine (HE _).out.mono ?_;rintro e w' ⟨rfl,rfl⟩)
       go_ret2;exact⟨by rw[HN.out];rfl,hbe⟩
      ·rename_i c
       have HE:=fun w=>zh (zR he hs w);obtain⟨h3,hn⟩:=pH hlt HA.out h37 he;have HN:=zh hn;clear he h37 HA hn
       go_wp2_with (first
        | (go_at_call 148;refine (HE _).out.mono ?_;rintro e w' ⟨rfl,rfl⟩)
        | (at_builtin;refine wpList_append_own _ rfl (.tmp 42) (.tmp 44) 22 rfl w.heap.size 5 i0 (.int .u8 0) 1 1 Tryz.underlying22 HI0.out HZ0.out HZ1.out HZ2.out rfl (by decide) _ _ _ rfl (hown.out.alloc _) ⟨wr.heap.size,0,none⟩ 1 1 [.int .u8 (c.toNat:Int)] rfl rfl (cell_one_new _ _ _) (by intro u hu;simp at hu;subst hu;rfl) (by unfold maxLen;omega) zo (by simp;omega) ?_;intro v' w1 hown1 hg1 _;have HO1:=zh hown1;clear hown1))
       go_roundw
       case rel =>
        refine⟨k+3,acc++[c],by omega,by go_num,by simp;omega,HN.out,?_,(hbe.alloc hbs _).grown hg1 (by simp;omega) (dG hown.out)⟩;have:=HO1.out;show World.ownsRow _ _ _ _ _ _ _;simpa [Lib.byteCells_append,Lib.byteCells,Nat.add_assoc] using this
       case measure=>simp[intOf];omega
     ·have b37:((s[k].toNat:Int) == 37)=false:=by
       rw[beq_eq_false_iff_ne];intro h;exact h37 (UInt8.toNat_inj.1 (by show s[k].toNat=37;omega))
      cases hp:lU (s[k].toNat)
      ·have HN:=zh (lR hlt HA.out hp h37);have HP:=zh hp;clear hp h37 HA
       go_wp2_with (go_at_call 80;refine (iP _ _).mono ?_;rintro e w' ⟨rfl,rfl⟩;rw[HP.out])
       go_ret2;exact⟨by rw[HN.out];rfl,hbe⟩
      ·have HN:=zh (lQ hlt HA.out hp);have HP:=zh hp;clear hp h37 HA
       go_wp2_with (first
        | (go_at_call 80;refine (iP _ _).mono ?_;rintro e w' ⟨rfl,rfl⟩;rw[HP.out])
        | (at_builtin;refine wpList_append_own _ rfl (.tmp 42) (.tmp 44) 22 rfl w.heap.size 5 i0 (.int .u8 0) 1 1 Tryz.underlying22 HI0.out HZ0.out HZ1.out HZ2.out rfl (by decide) _ _ _ rfl (hown.out.alloc _) ⟨wr.heap.size,0,none⟩ 1 1 [.int .u8 (s[k].toNat:Int)] rfl rfl (cell_one_new _ _ _) (by intro u hu;simp at hu;subst hu;rfl) (by unfold maxLen;omega) zo (by simp;omega) ?_;intro v' w1 hown1 hg1 _;have HO1:=zh hown1;clear hown1))
       go_roundw
       case rel =>
        refine⟨k+1,acc++[s[k]],by omega,by go_num,by simp;omega,HN.out,?_,(hbe.alloc hbs _).grown hg1 (by simp;omega) (dG hown.out)⟩;have:=HO1.out;show World.ownsRow _ _ _ _ _ _ _;simpa [Lib.byteCells_append,Lib.byteCells,Nat.add_assoc] using this
       case measure=>simp[intOf];omega
    ·obtain rfl:k=s.size:=by omega
     have HN:=zh (JF HA.out);have hcv:=iB hown.out;clear HA;go_wp2_with fail;go_ret2;exact⟨by rw[HN.out];rfl,hbe⟩
theorem nI (s:ByteArray) (c:Int) (w:World) :
 Calls Tryz.prog 105 #[.string s,.int .u8 c] w fun e w'=>e=.returned (.int .i64 (Lib.indexByte s.data.toList c.toNat.toUInt8))∧w=w':=by
 go_enter Tryz.func105,Tryz.ntmps105
 go_wp2
 rw[run_callFunc_extern Tryz.func137 (by kernel_rfl) (by kernel_rfl) (by kernel_rfl) (e:=Extern.BytealgIndexByte.indexByte) (by kernel_rfl),Lib.run_indexByteString];simp only[Result.andThen];rw[Oper.upon_value]
 go_wp2
 go_ret;exact⟨rfl,rfl⟩
def eQ (c:UInt8):ByteArray:=⟨#[c]⟩
theorem nD (c:UInt8):(eQ c).size=1:=rfl
theorem LB (c:UInt8) (h:0<(eQ c).size):(eQ c)[0]=c:=rfl
theorem BU (s:ByteArray) (c:UInt8):Lib.indexB s (eQ c)=Lib.indexByte s.data.toList c:=by
 show Lib.index s.data.toList [c]=_;exact Lib.index_one _ _
theorem uL (c:UInt8):((c.toNat:Int)).toNat.toUInt8=c:=by simp
theorem sU (s:ByteArray) (c:UInt8) (w:World) :
 Calls Tryz.prog 152 #[.string s,.string (eQ c)] w fun e w'=>e=.returned (.int .i64 (Lib.indexB s (eQ c)))∧w=w':=by
 have hsz:=nD c;have hat:=LB c;rw[BU];have hne:(eQ c).toList≠[]:=by rw[Lib.toList_data];simp[eQ]
 by_cases h:((eQ c).toList == s.toList)=true
 ·have hl:s.data.toList=[c]:=by rw[beq_iff_eq,Lib.toList_data,Lib.toList_data] at h;exact h.symm
  have HI:Hid (Lib.indexByte s.data.toList c=0):=by show _=_;rw[hl];simp[Lib.indexByte]
  clear hl
  go_enter Tryz.func152,Tryz.ntmps152
  go_wp2_with fail;go_ret;exact⟨by rw[HI.out];rfl,rfl⟩
 ·have h:((eQ c).toList == s.toList)=false:=by simpa using h
  have HC:=zh (fun w=>nI s (c.toNat:Int) w);have HB:=zh (uL c)
  go_enter Tryz.func152,Tryz.ntmps152
  go_wp2_with fail;refine (HC.out _).mono ?_;rintro e w' ⟨rfl,rfl⟩;rw[HB.out];go_wp2_with fail;go_ret;exact⟨rfl,rfl⟩
theorem GJ (s:ByteArray) (c:UInt8) (w:World) :
 Calls Tryz.prog 123 #[.string s,.string (eQ c)] w fun e w'=>e=.returned (.int .i64 (Lib.indexB s (eQ c)))∧w=w':=by
 go_enter Tryz.func123,Tryz.ntmps123
 go_wp2_with (go_at_call 152;refine (sU _ _ _).mono ?_;rintro e w' ⟨rfl,rfl⟩)
 go_ret;exact⟨rfl,rfl⟩
theorem CE (s:ByteArray) (c:UInt8):Lib.countB s (eQ c)=Lib.countByte s.data.toList c:=by
 show Lib.count s.data.toList [c]=_;exact Lib.count_one _ _
theorem GV (s:ByteArray) (c:UInt8) (w:World) :
 Calls Tryz.prog 122 #[.string s,.string (eQ c)] w fun e w'=>e=.returned (.int .i64 (Lib.countB s (eQ c):Int))∧w=w':=by
 have hsz:=nD c;have hat:=LB c;rw[CE];have HB:=zh (uL c)
 go_enter Tryz.func122,Tryz.ntmps122
 go_wp2_with fail;rw[run_callFunc_extern Tryz.func151 (by kernel_rfl) (by kernel_rfl) (by kernel_rfl) (e:=Extern.BytealgCount.count) (by kernel_rfl),Lib.run_countString,HB.out];simp only[Result.andThen];rw[Oper.upon_value];go_wp2_with fail;go_ret;exact⟨rfl,rfl⟩
theorem nH:(Tryz.prog.info? 9).map (fun i=>(i.zero,i.size,i.bytes))=some (some (.string ByteArray.empty),1,16):=by kernel_rfl
theorem makeS (n:Nat) (h:n≤100000000) (w:World):(Instr.makeSlice 55 (.int .i64 ((n:Int)+1)) (.int .i64 ((n:Int)+1))).run Tryz.prog w=.ok (.slice (some ⟨w.heap.size,0,none⟩) (n+1) (n+1)) (w.alloc (.cells (Lib.cellsOf [] (n+1)) 9)):=by
 have h1:=run_make_row' (P:=Tryz.prog) 55 9 (.string ByteArray.empty) 16 Tryz.underlying55 nH rfl .i64 .i64 (n+1) zo zo w;rw[←Lib.cellsOf_nil] at h1;exact h1
theorem xT (s:ByteArray) (c:UInt8) (h:Lib.indexB s (eQ c) = -1) (m:Nat):Lib.splitB (eQ c) 0 m s=[s]:=Lib.splitB_miss _ _ _ _ h
theorem vR (s:ByteArray) (c:UInt8) (w:World) (hs:s.size≤10000000) :
 Calls Tryz.prog 88 #[.string s,.string (eQ c),.int .i64 0,.int .i64 (-1)] w fun e w'=>e=.returned (.slice (some ⟨w.heap.size,0,none⟩) (Lib.countB s (eQ c)+1) (Lib.countB s (eQ c)+1)) ∧
  w'=w.alloc (.cells ((Lib.splitB (eQ c) 0 (Lib.countB s (eQ c)) s).map Value.string).toArray 9):=by
 have hsz:=nD c;have hne:(eQ c).toList≠[]:=by rw[Lib.toList_data];simp[eQ]
 have hn1:((eQ c).toList == [])=false:=by simpa using hne
 have hn2:(eQ c).toList.isEmpty=false:=by simpa using hne
 have hle:=Lib.countB_le (eQ c) (by rw[hsz];exact Nat.le_refl _) s.size s zl;have hall:=Lib.splitB_all (eQ c) (by rw[hsz];exact Nat.le_refl _) 0 _ s rfl;have HC:=zh (fun w=>GV s c w);have HIX:=zh (fun r w=>GJ r c w);obtain⟨N,hN⟩:∃ N,Lib.countB s (eQ c)=N:=⟨_,rfl⟩;rw[hN] at hle hall HC ⊢;obtain⟨ps,hps⟩:∃ ps,Lib.splitB (eQ c) 0 N s=ps:=⟨_,rfl⟩;rw[hps] at hall ⊢;have TU:=zh hall;have HPS:=zh hps;have hmin:min ((N:Int)+1) ((s.size:Int)+1)=(N:Int)+1:=Int.min_eq_left zo;have hmk:=makeS N zo;have q1:(N:Int)≤10000000:=by omega
 clear hN hall hps
 go_enter Tryz.func88,Tryz.ntmps88
 go_wp2_with fail;refine (HC.out _).mono ?_;rintro e w' ⟨rfl,rfl⟩;go_wp2_with fail;clear hmk hmin HC
 go_loopw [0,10] (fun sv iv wr=>∃ (done:List ByteArray) (rest:ByteArray),sv=.string rest∧iv=.int .i64 (done.length:Int)∧done.length≤N∧rest.size≤s.size∧Hid (done++Lib.splitB (eQ c) 0 (N-done.length) rest=ps)∧wr=w.alloc (.cells (Lib.cellsOf done (N+1)) 9)) (fun _ iv _=>N-(intOf iv).toNat)
 case atStart=>exact⟨[],s,rfl,rfl,Nat.zero_le _,Nat.le_refl _,HPS.out,rfl⟩
 case round =>
  obtain⟨done,rest,rfl,rfl,hd,hrs,HS,rfl⟩:=hrel;have hnext:(Lib.cellsOf done (N+1))[done.length]? = some (.string ByteArray.empty):=Lib.cellsOf_next zo;have hcz:=Lib.cellsOf_size (done:=done) (N:=N+1) zo;have YK:=zh (fun x=>Lib.cellsOf_set (done:=done) (N:=N+1) zo x);obtain⟨k,hk⟩:∃ k,done.length=k:=⟨_,rfl⟩;rw[hk] at hnext YK hd HS ⊢;have HK:=zh hk;have p1:(0:Int)≤(k:Int):=by omega
  have p2:(k:Int)<(N:Int)+1:=by omega
  by_cases hlt:k<N
  ·have hdl:decide ((k:Int)<(N:Int))=true:=by simp;omega
   rcases Lib.indexB_cases rest (eQ c) with hix | ⟨i,hix,hroom⟩
   ·exfalso;have e:=HS.out;rw[xT rest c hix] at e;have:=TU.out;rw[←e,List.length_append,hk] at this;simp at this;omega
   ·have HI:=zh hix;have hr1:i+1≤rest.size:=hroom;have HSN:Hid ((done++[rest.extract 0 i])++Lib.splitB (eQ c) 0 (N-(k+1)) (rest.extract (i+1) rest.size)=ps):=by
     show _=_;have e:=HS.out;rw[show N-k=(N-(k+1))+1 by omega,Lib.splitB_hit (eQ c) 0 _ rest i hix] at e;rw[←e,List.append_assoc];rfl
    have c0:decide ((i:Int)<0)=false:=by simp
    have c1:(0:Int)≤(i:Int):=by omega
    have c2:(i:Int)≤(rest.size:Int):=by omega
    have c3:(0:Int)≤(i:Int)+1:=by omega
    have c4:(i:Int)+1≤(rest.size:Int):=by omega
    have c5:((i:Int)+1).toNat=i+1:=by omega
    have c6:(i:Int)≤10000000:=by omega
    clear hix hroom hk;go_wp2_with fail;refine (HIX.out rest _).mono ?_;rintro e w' ⟨rfl,rfl⟩;rw[HI.out];go_wp2_with fail;go_roundw
    case rel =>
     refine⟨done++[rest.extract 0 i],_,rfl,?_,?_,?_,?_,?_⟩
     ·rw[List.length_append,HK.out];go_num
     ·rw[List.length_append,HK.out];exact hlt
     ·rw[ByteArray.size_extract];omega
     ·rw[List.length_append,HK.out];exact HSN
     ·rw[YK.out]
    case measure=>simp[intOf];omega
  ·obtain rfl:k=N:=by omega
   have hdl:decide ((k:Int)<(k:Int))=false:=by simp
   have HF:Hid ((Lib.cellsOf done (k+1)).setIfInBounds k (.string rest)=(ps.map Value.string).toArray):=by
    show _=_;have e:=HS.out;rw[Nat.sub_self] at e;have e2:done++[rest]=ps:=e;rw[YK.out,e2];have:=Lib.cellsOf_full ps;rw[TU.out] at this;exact this
   have p3:(0:Int)≤(k:Int)+1:=by omega
   have p4:((k:Int)+1).toNat=k+1:=by omega
   clear hk;go_wp2_with fail;go_ret;refine⟨rfl,?_⟩;rw[←HF.out]
theorem lA (s:ByteArray) (c:UInt8) (w:World) (hs:s.size≤10000000) :
 Calls Tryz.prog 51 #[.string s,.string (eQ c)] w fun e w'=>e=.returned (.slice (some ⟨w.heap.size,0,none⟩) (Lib.countB s (eQ c)+1) (Lib.countB s (eQ c)+1)) ∧
  w'=w.alloc (.cells ((Lib.splitB (eQ c) 0 (Lib.countB s (eQ c)) s).map Value.string).toArray 9):=by
 have HC:=zh (fun w=>vR s c w hs);clear hs
 go_enter Tryz.func51,Tryz.ntmps51
 go_wp2_with fail;refine (HC.out _).mono ?_;rintro e w' ⟨rfl,rfl⟩;go_wp2_with fail;go_ret;exact⟨rfl,rfl⟩
end Go.Proofs.YtaeobegaodhpcaaGreatDoor
