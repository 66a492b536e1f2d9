/-
  The walks of small functions of package document: which bytes are letters or digits, which stand for themselves, where a byte is in a string, which strings are names (for all arguments that are named in each theorem).
-/
import Derived.Test.YtaeobegaodhpcaaGreatDoorZip
import Derived.Test.YtaeobegaodhpcaaGreatDoorProg
import Derived.WalkKit
import Derived.WalkSpells
import Derived.WalkLawsBesides
import Derived.Deep.QuietTactic
import Derived.BigQuiet
import Derived.Lib.Hide
import Derived.Lib.Bytealg
import Derived.Lib.AppendStr
import Derived.Lib.UnsafeStr
import Derived.Lib.BufferWrite
import Derived.Laws.IdiomStrings
import Derived.Deep.RegionHeld3
import Derived.Deep.DrawnRows
import Derived.BigRegion
import Derived.Deep.MidRow
import Derived.Test.YtaeobegaodhpcaaGreatDoorChecked
import Derived.Lib.SplitLaws
import Derived.Lib.IndexBytes
import Derived.Below
import Derived.Deep.OwnRows
import Derived.Deep.LoopGhost
import Derived.IntWalk
set_option maxRecDepth 100000
set_option maxHeartbeats 8000000
namespace Go.Proofs.YtaeobegaodhpcaaGreatDoor
open Go.RowKit
theorem bJ {a b:Bool} (h:a = b):Ending.returned (.bool a) = .returned (.bool b):=by rw [h]
theorem pP {k:IntKind} {a b:Int} (h:a = b):Ending.returned (.int k a) = .returned (.int k b):=by rw [h]
def dK (c:Int):Bool:=decide (48 ≤ c) && decide (c ≤ 57)
def ldB (c:Int):Bool:=(decide (97 ≤ c) && decide (c ≤ 122)) || dK c
def kM (c:Int):Bool:=(decide (33 ≤ c) && decide (c ≤ 125)) && (c != 37)
theorem qD (c:Int) (w:World) :
 Calls Tryz.prog 104 #[.int .u8 c] w fun e w'=>e = .returned (.bool (dK c)) ∧ w = w':=by
 by_cases h1:48 ≤ c
 ·go_enter Tryz.func104,Tryz.ntmps104
  go_wp2
  go_ret;exact ⟨bJ (by simp [dK,h1]),rfl⟩
 ·go_enter Tryz.func104,Tryz.ntmps104
  go_wp2
  go_ret;exact ⟨bJ (by unfold dK;rw [decide_eq_false (p:=48 ≤ c) (by omega)];rfl),rfl⟩
theorem cQ (c:Int) (w:World) :
 Calls Tryz.prog 65 #[.int .u8 c] w fun e w'=>e = .returned (.bool (ldB c)) ∧ w = w':=by
 by_cases h1:97 ≤ c
 ·by_cases h2:c ≤ 122
  ·go_enter Tryz.func65,Tryz.ntmps65
   go_wp2
   go_ret;exact ⟨bJ (by unfold ldB;rw [decide_eq_true h1,decide_eq_true h2];rfl),rfl⟩
  ·go_enter Tryz.func65,Tryz.ntmps65
   go_wp2_with (go_at_call 104;refine (qD _ _).mono ?_;rintro e w' ⟨rfl,rfl⟩)
   go_ret;exact ⟨bJ (by unfold ldB;rw [decide_eq_false (p:=c ≤ _) (by omega)];simp),rfl⟩
 ·go_enter Tryz.func65,Tryz.ntmps65
  go_wp2_with (go_at_call 104;refine (qD _ _).mono ?_;rintro e w' ⟨rfl,rfl⟩)
  go_ret;exact ⟨bJ (by unfold ldB;rw [decide_eq_false (p:=_ ≤ c) (by omega)];simp),rfl⟩
theorem hO (c:Int) (w:World) :
 Calls Tryz.prog 80 #[.int .u8 c] w fun e w'=>e = .returned (.bool (kM c)) ∧ w = w':=by
 by_cases h1:33 ≤ c
 ·by_cases h2:c ≤ 125
  ·go_enter Tryz.func80,Tryz.ntmps80
   go_wp2
   go_ret;exact ⟨bJ (by unfold kM;rw [decide_eq_true h1,decide_eq_true h2];rfl),rfl⟩
  ·go_enter Tryz.func80,Tryz.ntmps80
   go_wp2
   go_ret;exact ⟨bJ (by unfold kM;rw [decide_eq_false (p:=c ≤ _) (by omega)];simp),rfl⟩
 ·go_enter Tryz.func80,Tryz.ntmps80
  go_wp2
  go_ret;exact ⟨bJ (by unfold kM;rw [decide_eq_false (p:=_ ≤ c) (by omega)];simp),rfl⟩
theorem pF (s:ByteArray) (w:World) :
 Calls Tryz.prog 79 #[.string s] w fun e w'=>e = .returned (.bool (decide (32768 < s.size))) ∧ w = w':=by
 go_enter Tryz.func79,Tryz.ntmps79
 go_wp2
 go_ret;exact ⟨bJ (by simp;omega),rfl⟩
theorem nA (s:ByteArray) (c:Int) (w:World) :
 Calls Tryz.prog 105 #[.string s,.int .u8 c] w fun e w'=>e = .returned (.int .i64 (Lib.indexByte s.data.toList c.toNat.toUInt8)) ∧ w = w':=by
 go_enter Tryz.func105,Tryz.ntmps105
 go_wp2
 rw [run_callFunc_extern Tryz.func137 (by kernel_rfl) (by kernel_rfl) (by kernel_rfl) (e:=Extern.BytealgIndexByte.indexByte) (by kernel_rfl),Lib.run_indexByteString];simp only [Result.andThen];rw [Oper.upon_value]
 go_wp2
 go_ret;exact ⟨rfl,rfl⟩
theorem fJ (s:ByteArray) (c:Int) (w:World) :
 Calls Tryz.prog 66 #[.string s,.int .u8 c] w fun e w'=>e = .returned (.int .i64 (Lib.indexByte s.data.toList c.toNat.toUInt8)) ∧ w = w':=by
 go_enter Tryz.func66,Tryz.ntmps66
 go_wp2_with (go_at_call 105;refine (nA _ _ _).mono ?_;rintro e w' ⟨rfl,rfl⟩)
 go_ret;exact ⟨rfl,rfl⟩
def nmc (c:UInt8):Bool:=ldB c.toNat || (c == 46 || c == 95 || c == 45)
def nmB (l:List UInt8):Bool:=decide (l.length ≤ 64) && ((match l with | c :: _=>ldB c.toNat | []=>false) && l.all nmc)
theorem SG (c:UInt8):((c.toNat:Int)).toNat.toUInt8 = c:=by simp
theorem dots (c:UInt8):decide (Lib.indexByte [46,95,45] c < 0) = !(c == 46 || c == 95 || c == 45):=by
 unfold Lib.indexByte Lib.indexByte Lib.indexByte Lib.indexByte;by_cases h1:c = 46
 ·subst h1;rfl
 ·by_cases h2:c = 95
  ·subst h2;rfl
  ·by_cases h3:c = 45
   ·subst h3;rfl
   ·have e1:((46:UInt8) == c) = false:=by simpa using fun h=>h1 h.symm
    have e2:((95:UInt8) == c) = false:=by simpa using fun h=>h2 h.symm
    have e3:((45:UInt8) == c) = false:=by simpa using fun h=>h3 h.symm
    simp [e1,e2,e3,h1,h2,h3]
theorem zY {c:UInt8} (h:ldB c.toNat = false):nmc c = !decide (Lib.indexByte [46,95,45] c < 0):=by
 rw [dots];unfold nmc;rw [h];simp
theorem JQ {c:UInt8} (h:ldB c.toNat = true):nmc c = true:=by unfold nmc;rw [h];rfl
theorem kN (s:ByteArray) (k:Nat) (h:k < s.size):s.data.toList.take (k + 1) = s.data.toList.take k ++ [s[k]]:=by
 rw [List.take_succ_eq_append_getElem (by simpa using h)];rfl
theorem CS (s:ByteArray) (k:Nat) (h:s.size ≤ k):s.data.toList.take k = s.data.toList:=List.take_of_length_le (by rw [← Lib.size_eq];exact h)
theorem LO (s:ByteArray) (h:0 < s.size):∃ t,s.data.toList = s[0] :: t:=by
 have h':0 < s.data.toList.length:=by rw [← Lib.size_eq];exact h
 cases hl:s.data.toList with
 | nil=>rw [hl] at h';simp at h'
 | cons a t =>
   refine ⟨t,?_⟩;have:s[0] = s.data.toList[0]:=rfl;rw [this];simp [hl]
theorem CB {s:ByteArray} (h:0 < s.size) (h64:s.size ≤ 64):nmB s.data.toList = (ldB (s[0].toNat) && s.data.toList.all nmc):=by
 have h':s.data.toList.length ≤ 64:=by rw [← Lib.size_eq];exact h64
 obtain ⟨t,ht⟩:=LO s h;unfold nmB;rw [decide_eq_true h',ht];simp
theorem xC {s:ByteArray} (h:s.size = 0):nmB s.data.toList = false:=by
 have:s.data.toList = []:=List.eq_nil_of_length_eq_zero (by rw [← Lib.size_eq];exact h);rw [this];rfl
theorem CA {s:ByteArray} (h:64 < s.size):nmB s.data.toList = false:=by
 unfold nmB;rw [decide_eq_false (by rw [← Lib.size_eq];omega)];rfl
theorem oF {s:ByteArray} {k:Nat} (h:k < s.size) (hc:nmc s[k] = false):s.data.toList.all nmc = false:=by
 rw [Bool.eq_false_iff];intro ha
 have := List.all_eq_true.1 ha s[k] (by have : s[k] = s.data.toList[k]'(by simpa using h) := rfl
                                        rw [this];exact List.getElem_mem _)
 rw [hc] at this;cases this
theorem QS (s:ByteArray) (w:World) (hs:s.size ≤ maxLen) :
 Calls Tryz.prog 31 #[.string s] w fun e w'=>e = .returned (.bool (nmB s.data.toList)) ∧ w = w':=by
 unfold maxLen at hs;by_cases h0:s.size = 0
 ·have hn:=xC h0;generalize nmB s.data.toList = r at *;have e0:s.toList = []:=by rw [Lib.toList_data];exact List.eq_nil_of_length_eq_zero (by rw [← Lib.size_eq];exact h0)
  have HN:=zh hn;clear hn
  go_enter Tryz.func31,Tryz.ntmps31
  go_wp2
  go_ret;exact ⟨bJ HN.out.symm,rfl⟩
 ·have e0:s.toList.isEmpty = false:=by
   rw [Lib.toList_data,List.isEmpty_eq_false_iff];intro h;rw [Lib.size_eq,h] at h0;simp at h0
  have H0:0 < s.size:=by omega
  by_cases h64:64 < s.size
  ·have HN:=zh (CA h64);generalize nmB s.data.toList = r at *
   go_enter Tryz.func31,Tryz.ntmps31
   go_wp2
   go_ret;exact ⟨bJ HN.out.symm,rfl⟩
  ·have HN:=zh (CB H0 (by omega));generalize nmB s.data.toList = r at *
   cases hld:ldB (s[0].toNat)
   ·rw [hld] at HN;have HL:=zh hld;clear hld
    go_enter Tryz.func31,Tryz.ntmps31
    go_wp2_with (go_at_call 65;refine (cQ _ _).mono ?_;rintro e w' ⟨rfl,rfl⟩;rw [HL.out])
    go_ret;exact ⟨bJ (by rw [HN.out];rfl),rfl⟩
   ·rw [hld] at HN;have HL:=zh hld;clear hld
    go_enter Tryz.func31,Tryz.ntmps31
    go_wp2_with (go_at_call 65;refine (cQ _ _).mono ?_;rintro e w' ⟨rfl,rfl⟩;rw [HL.out])
    go_loop [19] (fun i=>∃ k:Nat,k ≤ s.size ∧ i = .int .i64 k ∧ Hid ((s.data.toList.take k).all nmc = true)) (fun i=>s.size - (intOf i).toNat)
    case atStart=>exact ⟨0,by omega,rfl,rfl⟩
    case round =>
     obtain ⟨k,hk,rfl,HA⟩:=hrel;by_cases hlt:k < s.size
     ·have HS:=zh (kN s k hlt)
      cases hl:ldB (s[k].toNat)
      ·have HK:=zh (zY hl);have HL2:=zh hl;clear hl
       cases hd:decide (Lib.indexByte [46,95,45] s[k] < 0)
       ·rw [hd] at HK;have hd2:¬ Lib.indexByte [46,95,45] s[k] < 0:=of_decide_eq_false hd;clear hd
        go_wp2_with (first | (go_at_call 65;refine (cQ _ _).mono ?_;rintro e w' ⟨rfl,rfl⟩;rw [HL2.out]) | (go_at_call 66;refine (fJ _ _ _).mono ?_;rintro e w' ⟨rfl,rfl⟩;rw [SG]))
        go_round
        case rel=>exact ⟨k + 1,by omega,by go_num,by show _ = true;rw [HS.out,List.all_append,HA.out];simp [HK.out]⟩
        case measure=>simp [intOf];omega
       ·rw [hd] at HK;have hd2:Lib.indexByte [46,95,45] s[k] < 0:=of_decide_eq_true hd;clear hd
        go_wp2_with (first | (go_at_call 65;refine (cQ _ _).mono ?_;rintro e w' ⟨rfl,rfl⟩;rw [HL2.out]) | (go_at_call 66;refine (fJ _ _ _).mono ?_;rintro e w' ⟨rfl,rfl⟩;rw [SG]))
        go_ret;exact ⟨bJ (by rw [HN.out,oF hlt HK.out];rfl),rfl⟩
      ·have HK:=zh (JQ hl);have HL2:=zh hl;clear hl
       go_wp2_with (go_at_call 65;refine (cQ _ _).mono ?_;rintro e w' ⟨rfl,rfl⟩;rw [HL2.out])
       go_round
       case rel=>exact ⟨k + 1,by omega,by go_num,by show _ = true;rw [HS.out,List.all_append,HA.out];simp [HK.out]⟩
       case measure=>simp [intOf];omega
     ·go_wp2
      go_ret;exact ⟨bJ (by rw [HN.out,← CS s k (by omega),HA.out];rfl),rfl⟩
def AG (n:Nat):UInt8:=if n < 10 then 48 + n.toUInt8 else 55 + n.toUInt8
def nX (c:UInt8):List UInt8:=if kM c.toNat then [c] else [37,AG (c.toNat / 16),AG (c.toNat % 16)]
def cI (l:List UInt8):List UInt8:=if l = [] then [126] else l.flatMap nX
theorem kB {c:UInt8} (h:kM c.toNat = true):nX c = [c]:=by unfold nX;rw [if_pos h]
theorem oY {c:UInt8} (h:kM c.toNat = false):nX c = [37,AG (c.toNat / 16),AG (c.toNat % 16)]:=by unfold nX;rw [if_neg (by rw [h];simp)]
theorem VJ (c:UInt8):(nX c).length ≤ 3:=by unfold nX;split <;> simp
theorem uD (l:List UInt8):(l.flatMap nX).length ≤ 3 * l.length:=by
 induction l with
 | nil=>simp
 | cons a t ih=>have:=VJ a;simp only [List.flatMap_cons,List.length_append,List.length_cons];omega
theorem oQ (l:List UInt8):(cI l).length ≤ 3 * l.length + 1:=by
 unfold cI;split
 ·simp
 ·have:=uD l;omega
theorem qX (s:ByteArray) (k:Nat) (h:k < s.size):s.data.toList.take (k + 1) = s.data.toList.take k ++ [s[k]]:=by
 rw [List.take_succ_eq_append_getElem (by simpa using h)];rfl
theorem xW (s:ByteArray) (k:Nat) (h:k < s.size):(s.data.toList.take (k + 1)).flatMap nX = (s.data.toList.take k).flatMap nX ++ nX s[k]:=by
 rw [qX s k h,List.flatMap_append];simp
theorem lD (s:ByteArray):s.data.toList.take s.size = s.data.toList:=List.take_of_length_le (by rw [← Lib.size_eq];exact Nat.le_refl _)
theorem Tryz.info5:(Tryz.prog.info? 5).map (fun i=>(i.zero,i.size,i.bytes)) = some (some (.int .u8 0),1,1):=by kernel_rfl
theorem oA {w:World} {base e:Nat} {v:Value} {l:List UInt8} (h:w.ownsRow base e 1 v l.length (Lib.byteCells l)) :
 (v = .slice none 0 0 ∧ l = []) ∨ ∃ g cap,v = .slice (some ⟨g,0,none⟩) l.length cap ∧ base ≤ g ∧ g < w.heap.size ∧ ∀ j (hj:j < l.length),w.cell? ⟨g,j,none⟩ = some (.int .u8 (l[j].toNat:Int)):=by
 obtain ⟨_,⟨rfl,h0⟩ | ⟨g,cap,cur,rfl,hb,hg,hle,_,hsz,htk⟩⟩:=h
 ·exact .inl ⟨rfl,List.eq_nil_of_length_eq_zero h0⟩
 ·refine .inr ⟨g,cap,rfl,hb,(Array.getElem?_eq_some_iff.1 hg).1,fun j hj=>?_⟩;rw [cell_of_row w g j cur e _ hg];have h1:(cur.toList.take (l.length * 1))[j]? = some (.int .u8 (l[j].toNat:Int)):=by rw [htk];simp [Lib.byteCells,List.getElem?_eq_getElem hj]
  rw [List.getElem?_take,if_pos (by omega)] at h1;simpa using h1
theorem kJ {w:World} {base e:Nat} {v:Value} {l:List UInt8} (h:w.ownsRow base e 1 v l.length (Lib.byteCells l)) :
 (convert 22 9 v).run Tryz.prog w = .ok (.string ⟨l.toArray⟩) w:=by
 rcases oA h with ⟨rfl,rfl⟩ | ⟨g,cap,rfl,_,_,hc⟩
 ·rw [run_convert_bytes_string w 22 9 5 none 0 0 Tryz.underlying22 Tryz.underlying5 Tryz.underlying9];kernel_rfl
 ·exact run_convert_bytes_back w 22 9 5 _ cap l Tryz.underlying22 Tryz.underlying5 Tryz.underlying9 (fun j hj=>by rw [Addr.add_mid,Nat.zero_add];exact hc j hj)
def aBg (base:Nat) (w:World) (l:List UInt8) (e:Ending) (w':World):Prop:=∃ v,e = .returned v ∧ Hid (w'.ownsRow base 5 1 v l.length (Lib.byteCells l)) ∧ Below base w w'
theorem lR (n:Nat) (h:n < 16) (w:World):(Instr.index 9 (.string ⟨#[48,49,50,51,52,53,54,55,56,57,65,66,67,68,69,70]⟩) (.int .u8 (n:Int))).run Tryz.prog w = .ok (.int .u8 ((AG n).toNat:Int)) w:=by
 rcases (by omega:n = 0 ∨ n = 1 ∨ n = 2 ∨ n = 3 ∨ n = 4 ∨ n = 5 ∨ n = 6 ∨ n = 7 ∨ n = 8 ∨ n = 9 ∨ n = 10 ∨ n = 11 ∨ n = 12 ∨ n = 13 ∨ n = 14 ∨ n = 15) with rfl | rfl | rfl | rfl | rfl | rfl | rfl | rfl | rfl | rfl | rfl | rfl | rfl | rfl | rfl | rfl <;> kernel_rfl
theorem tA (w:World) (L:List Value) (t:TypeId):∀ j u,L[j]? = some u → ((w.alloc (.cells L.toArray t)).drew).cell? ((⟨w.heap.size,0,none⟩:Addr).add j) = some u:=by
 intro j u hj;have h:((w.alloc (.cells L.toArray t)).drew).heap[w.heap.size]? = some (.cells L.toArray t (0,0)):=heap_alloc_new w _;rw [Addr.add_mid,Nat.zero_add,cell_of_row _ w.heap.size j _ t (0,0) h];simpa using hj
theorem jF {P:Program} {w:World} {ops:Array Oper} {o:Oper} {a:Act} {K:Act → World → Prop} {Q:Exit → Act → World → Prop} {E:Prop} (hgd:o.guard = none) (s x:Operand) (t:TypeId)
 (ho:o.op = .call { callee:=.builtin .append,args:=#[s,x],argTypes:=#[t,t] })
 (base:Nat) (e:TypeId) (i:TypeInfo) (z:Value) (size bytes:Nat) (ht:P.underlying t = some (.slice e)) (hi:P.info? e = some i) (hz:i.zero = some z)
 (hsize:i.size = size) (hby:i.bytes = bytes) (hzs:z.cells.size = size) (hsz:0 < size)
 (v:Value) (n:Nat) (xs:List Value) (hs:a.eval s = v) (hown:w.ownsRow base e size v n xs)
 (ad:Addr) (m c:Nat) (news:List Value) (hx:a.eval x = .slice (some ad) m c) (hl:news.length = m * size) (hnews:∀ j u,news[j]? = some u → w.cell? (ad.add j) = some u) (h1:∀ u ∈ news,u.oneCell' = true)
 (h63:n + m ≤ maxLen) (hbytes:(n + m) * bytes ≤ 140737488355328) (hbase:base ≤ w.heap.size)
 (h:∀ v' w',w'.ownsRow base e size v' (n + m) (xs ++ news) → w.grownBy w' v.ownBlock → (v' = .slice none 0 0 ↔ v = .slice none 0 0 ∧ m = 0) → K (a.put o.dst v') w') :
 if Region.wanted o (yielded ops a.tmps) = true then Oper.wp P o a w K Q else E:=by
 have hw:Region.wanted o (yielded ops a.tmps) = true:=by simp [Region.wanted,hgd]
 rw [if_pos hw];exact wp_append_own w s x t ho base e i z size bytes ht hi hz hsize hby hzs hsz v n xs hs hown ad m c news hx hl hnews h1 h63 hbytes hbase h
theorem ZK:∀ c:Fin 256,bits .and .u8 (c.val:Int) 15 = (c.val:Int) % 16:=by decide +kernel
theorem ZL (c:UInt8):bits .and .u8 (c.toNat:Int) 15 = (c.toNat:Int) % 16:=ZK ⟨c.toNat,UInt8.toNat_lt _⟩
theorem dS {w:World} {base e size:Nat} {v:Value} {n:Nat} {xs:List Value} (h:w.ownsRow base e size v n xs):∀ k,v.ownBlock = some k → base ≤ k:=fun k hk=>(h.lt k hk).1
theorem kO (base:Nat) (v:Value) (xs:List UInt8) (s:ByteArray) (w:World) (hown:w.ownsRow base 5 1 v xs.length (Lib.byteCells xs)) (hbase:base ≤ w.heap.size) (hlen:xs.length + 3 * s.size + 1 ≤ 1099511627776) :
 Calls Tryz.prog 43 #[v,.string s] w (aBg base w (xs ++ cI s.data.toList)):=by
 have BA:=zh hown;clear hown;obtain ⟨i0,hi0,hz0,hz1,hz2⟩:=info_parts Tryz.info5;have HI0:=zh hi0;have HZ0:=zh hz0;have HZ1:=zh hz1;have HZ2:=zh hz2;clear hi0 hz0 hz1 hz2;by_cases h0:s.size = 0
 ·have e0:s.toList = []:=by rw [Lib.toList_data];exact List.eq_nil_of_length_eq_zero (by rw [← Lib.size_eq];exact h0)
  have HW:=zh (show cI s.data.toList = [126] by rw [← Lib.toList_data,e0];rfl);generalize cI s.data.toList = wl at *;clear h0
  go_enter Tryz.func43,Tryz.ntmps43
  go_wp2_with (at_builtin;(refine Lib.wpList_append_own_string _ rfl (.tmp 9) (.const (.string ⟨#[126]⟩)) 22 9 rfl base 5 i0 Tryz.underlying22 Tryz.underlying9 HI0.out HZ0.out HZ1.out HZ2.out _ _ _ rfl BA.out ⟨#[126]⟩ rfl (by unfold maxLen;show xs.length + 1 ≤ _;omega) (by show xs.length + 1 ≤ _;omega) hbase ?_;intro v' w1 hown1 hg1 _;have HO1:=zh hown1;clear hown1))
  go_ret;refine ⟨v',rfl,?_,(Below.refl _ _).grown hg1 hbase (dS BA.out)⟩;rw [HW.out];have:=HO1.out;rw [show (⟨#[126]⟩:ByteArray).size = 1 from rfl] at this;show World.ownsRow _ _ _ _ _ _ _;simpa [Lib.byteCells_append,Lib.strCells_eq] using this
 ·have e0:s.toList.isEmpty = false:=by
   rw [Lib.toList_data,List.isEmpty_eq_false_iff];intro h;rw [Lib.size_eq,h] at h0;simp at h0
  have HW:=zh (show cI s.data.toList = (s.data.toList.take s.size).flatMap nX by
   unfold cI;rw [lD,if_neg (by intro h;rw [Lib.size_eq,h] at h0;simp at h0)])
  generalize cI s.data.toList = wl at *;clear h0
  go_enter Tryz.func43,Tryz.ntmps43
  go_wp2_with fail
  go_loopw [0,13] (fun b i wr=>∃ k:Nat,k ≤ s.size ∧ i = .int .i64 k ∧ Hid (wr.ownsRow base 5 1 b (xs ++ (s.data.toList.take k).flatMap nX).length (Lib.byteCells (xs ++ (s.data.toList.take k).flatMap nX))) ∧ Below base w wr) (fun _ i _=>s.size - (intOf i).toNat)
  case atStart=>exact ⟨0,by omega,rfl,by show World.ownsRow _ _ _ _ _ _ _;simpa using BA.out,Below.refl _ _⟩
  case round =>
   obtain ⟨k,hk,rfl,hown,hbe⟩:=hrel;by_cases hlt:k < s.size
   ·have HS:=zh (xW s k hlt);have hle:=uD (s.data.toList.take k);have hle2:(s.data.toList.take k).length ≤ k:=List.length_take_le _ _;have hbs:=Nat.le_trans hbase hbe.size;generalize (s.data.toList.take k).flatMap nX = fl at *;clear BA
    cases hp:kM (s[k].toNat)
    ·have HK:=zh (oY hp);have HP:=zh hp;clear hp;have hc256:s[k].toNat < 256:=UInt8.toNat_lt _;have hx1:=lR (s[k].toNat / 16) (by omega);have hx2:=lR (s[k].toNat % 16) (by omega);rw [show ((s[k].toNat / 16:Nat):Int) = (s[k].toNat:Int) / 16 by omega] at hx1;rw [show ((s[k].toNat % 16:Nat):Int) = (s[k].toNat:Int) % 16 by omega] at hx2;have hand:=ZL s[k]
     go_wp2_with (go_at_call 80;refine (hO _ _).mono ?_;rintro e w' ⟨rfl,rfl⟩;rw [HP.out])
     go_region_held3 (fun _=>True) (trivial) ((refine jF rfl (.tmp 25) (.tmp 32) 22 (by rfl) base 5 i0 (.int .u8 0) 1 1 Tryz.underlying22 HI0.out HZ0.out HZ1.out HZ2.out rfl (by decide) _ _ _ (by rfl) (by exact (hown.out.alloc _).drew) ⟨wr.heap.size,0,none⟩ 3 3 (Lib.byteCells [37,AG (s[k].toNat / 16),AG (s[k].toNat % 16)]) (by rfl) (by rfl) (by exact tA _ _ _) (Lib.byteCells_one _) (by unfold maxLen;simp only [List.length_append];omega) (by simp only [List.length_append];omega) (by simp;omega) ?_;intro v' w1 hown1 hg1 _;have HO1:=zh hown1;clear hown1))
     all_goals
      go_wp2
      go_roundw
      case rel =>
       refine ⟨k + 1,by omega,by go_num,?_,?_⟩
       ·rw [HS.out,HK.out];have:=HO1.out;show World.ownsRow _ _ _ _ _ _ _;simpa [Lib.byteCells_append,Lib.byteCells,Nat.add_assoc] using this
       ·exact ((hbe.alloc hbs _).drew).grown hg1 (by simp;omega) (dS hown.out)
      case measure=>simp [intOf];omega
    ·have HK:=zh (kB hp);have HP:=zh hp;clear hp
     go_wp2_with (first
      | (go_at_call 80;refine (hO _ _).mono ?_;rintro e w' ⟨rfl,rfl⟩;rw [HP.out])
      | (at_builtin;refine wpList_append_own _ rfl (.tmp 21) (.tmp 23) 22 rfl base 5 i0 (.int .u8 0) 1 1 Tryz.underlying22 HI0.out HZ0.out HZ1.out HZ2.out rfl (by decide) _ _ _ rfl (hown.out.alloc _) ⟨wr.heap.size,0,none⟩ 1 1 [.int .u8 (s[k].toNat:Int)] rfl rfl (cell_one_new _ _ _) (by intro u hu;simp at hu;subst hu;rfl) (by unfold maxLen;simp only [List.length_append];omega) (by simp only [List.length_append];omega) (by simp;omega) ?_;intro v' w1 hown1 hg1 _;have HO1:=zh hown1;clear hown1))
     go_roundw
     case rel =>
      refine ⟨k + 1,by omega,by go_num,?_,?_⟩
      ·rw [HS.out,HK.out];have:=HO1.out;show World.ownsRow _ _ _ _ _ _ _;simpa [Lib.byteCells_append,Lib.byteCells,Nat.add_assoc] using this
      ·exact (hbe.alloc hbs _).grown hg1 (by simp;omega) (dS hown.out)
     case measure=>simp [intOf];omega
   ·obtain rfl:k = s.size:=by omega
    go_wp2
    go_ret;exact ⟨u0,rfl,by rw [HW.out];exact hown,hbe⟩
def hexD:List UInt8:=[48,49,50,51,52,53,54,55,56,57,65,66,67,68,69,70]
def qP (c:UInt8):Nat:=if 48 ≤ c.toNat ∧ c.toNat ≤ 57 then c.toNat - 48 else if 65 ≤ c.toNat ∧ c.toNat ≤ 70 then c.toNat - 55 else 16
theorem KS (c:UInt8):qP c ≤ 16:=by unfold qP;split <;> (try split) <;> omega
theorem EM:∀ c:Fin 256,Lib.indexByte hexD (UInt8.ofNat c.val) = if qP (UInt8.ofNat c.val) = 16 then -1 else (qP (UInt8.ofNat c.val):Int):=by decide +kernel
theorem xP (c:UInt8):Lib.indexByte hexD c = if qP c = 16 then -1 else (qP c:Int):=by
 have h:=EM ⟨c.toNat,UInt8.toNat_lt _⟩;simpa using h
def XG (a b:UInt8):Option UInt8 :=
 if qP a = 16 ∨ qP b = 16 then none else if kM ((16 * qP a + qP b:Nat):Int) then none else some (UInt8.ofNat (16 * qP a + qP b))
def AL:List UInt8 → Option UInt8
 | a :: b :: _=>XG a b
 | _=>none
def jV:List UInt8 → Option (List UInt8)
 | []=>some []
 | [c]=>if kM c.toNat then some [c] else none
 | [c,d]=>if kM c.toNat then (jV [d]).map (c :: ·) else none
 | c :: a :: b :: r =>
   if kM c.toNat then (jV (a :: b :: r)).map (c :: ·)
   else if c = 37 then (match XG a b with | some v=>(jV r).map (v :: ·) | none=>none) else none
def gZ (l:List UInt8):Option (List UInt8):=if l = [] then none else if l = [126] then some [] else jV l
theorem IY:kM 37 = false:=by decide
theorem rQ {c:UInt8} (h:kM c.toNat = true) (t:List UInt8):jV (c :: t) = (jV t).map (c :: ·):=by
 match t with
 | []=>simp [jV,h]
 | [d]=>simp [jV,h]
 | a :: b :: r=>simp [jV,h]
theorem tL (t:List UInt8):jV (37 :: t) = match AL t with | some v=>(jV (t.drop 2)).map (v :: ·) | none=>none:=by
 match t with
 | []=>simp [jV,AL,IY]
 | [d]=>simp [jV,AL,IY]
 | a :: b :: r=>simp [jV,AL,IY]
theorem DN {c:UInt8} (h:kM c.toNat = false) (h2:c ≠ 37) (t:List UInt8):jV (c :: t) = none:=by
 match t with
 | []=>simp [jV,h]
 | [d]=>simp [jV,h]
 | a :: b :: r=>simp [jV,h,h2]
theorem PQ:∀ c:Fin 256,kM (c.val:Int) = false → XG (AG (c.val / 16)) (AG (c.val % 16)) = some (UInt8.ofNat c.val):=by decide +kernel
theorem VF (c:UInt8) (h:kM c.toNat = false):XG (AG (c.toNat / 16)) (AG (c.toNat % 16)) = some c:=by
 have:=PQ ⟨c.toNat,UInt8.toNat_lt _⟩ h;simpa using this
theorem GN (c:UInt8) (t:List UInt8):jV (nX c ++ t) = (jV t).map (c :: ·):=by
 cases h:kM c.toNat
 ·rw [oY h,List.cons_append,tL];simp only [List.cons_append,List.nil_append,AL,VF c h,List.drop_succ_cons,List.drop_zero]
 ·rw [kB h,List.singleton_append,rQ h]
theorem GM (l:List UInt8):jV (l.flatMap nX) = some l:=by
 induction l with
 | nil=>rfl
 | cons a t ih=>rw [List.flatMap_cons,GN,ih];rfl
theorem NK:jV [126] = none:=by decide
theorem vS (l:List UInt8):gZ (cI l) = some l:=by
 unfold cI;by_cases h:l = []
 ·subst h;rfl
 ·rw [if_neg h];unfold gZ;have hf:=GM l;by_cases h1:l.flatMap nX = []
  ·rw [h1] at hf;exact absurd (Option.some.inj hf).symm h
  ·rw [if_neg h1];by_cases h2:l.flatMap nX = [126]
   ·rw [h2,NK] at hf;cases hf
   ·rw [if_neg h2,hf]
theorem sO (n:Nat) (h:n < 16):33 ≤ (AG n).toNat ∧ (AG n).toNat ≤ 126:=by
 rcases (by omega:n = 0 ∨ n = 1 ∨ n = 2 ∨ n = 3 ∨ n = 4 ∨ n = 5 ∨ n = 6 ∨ n = 7 ∨ n = 8 ∨ n = 9 ∨ n = 10 ∨ n = 11 ∨ n = 12 ∨ n = 13 ∨ n = 14 ∨ n = 15) with rfl | rfl | rfl | rfl | rfl | rfl | rfl | rfl | rfl | rfl | rfl | rfl | rfl | rfl | rfl | rfl <;> decide
theorem IX {c:UInt8} (h:kM c.toNat = true):33 ≤ c.toNat ∧ c.toNat ≤ 125:=by
 unfold kM at h;simp only [Bool.and_eq_true,decide_eq_true_eq] at h;omega
theorem EY (c:UInt8):∀ x ∈ nX c,33 ≤ x.toNat ∧ x.toNat ≤ 126:=by
 intro x hx;have hc:c.toNat < 256:=UInt8.toNat_lt _
 cases h:kM c.toNat
 ·rw [oY h] at hx;rcases List.mem_cons.1 hx with rfl | hx
  ·decide
  ·rcases List.mem_cons.1 hx with rfl | hx
   ·exact sO _ (by omega)
   ·obtain rfl:=List.mem_singleton.1 hx;exact sO _ (by omega)
 ·rw [kB h] at hx;obtain rfl:=List.mem_singleton.1 hx;have:=IX h;omega
theorem yV (l:List UInt8):∀ x ∈ cI l,33 ≤ x.toNat ∧ x.toNat ≤ 126:=by
 intro x hx;unfold cI at hx
 split at hx
 ·obtain rfl:=List.mem_singleton.1 hx;decide
 ·obtain ⟨c,_,hc⟩:=List.mem_flatMap.1 hx;exact EY c x hc
theorem xT:(⟨#[48,49,50,51,52,53,54,55,56,57,65,66,67,68,69,70]⟩:ByteArray).data.toList = hexD:=rfl
theorem LU (c:UInt8):((c.toNat:Int)).toNat.toUInt8 = c:=by simp
theorem PR {s:ByteArray} (h:2 ≤ s.size):AL s.data.toList = XG s[0] s[1]:=by
 obtain ⟨⟨l⟩⟩:=s
 match l,h with
 | a :: b :: t,_=>rfl
theorem EU {s:ByteArray} (h:s.size < 2):AL s.data.toList = none:=by
 obtain ⟨⟨l⟩⟩:=s
 match l,h with
 | [],_=>rfl
 | [a],_=>rfl
def MQ (r:Option UInt8) (w:World) (e:Ending) (w':World):Prop :=
 (match r with | some v=>e = .returned (.tuple #[.int .u8 (v.toNat:Int),.bool true]) | none=>e = .returned (.tuple #[.int .u8 0,.bool false])) ∧ w = w'
theorem UH:∀ a b:Fin 16,(bits .or .i64 ((a.val:Int) * 16) (b.val:Int)) = ((16 * a.val + b.val:Nat):Int):=by decide +kernel
theorem YM (a b:Nat) (ha:a < 16) (hb:b < 16):bits .or .i64 ((a:Int) * 16) (b:Int) = ((16 * a + b:Nat):Int):=UH ⟨a,ha⟩ ⟨b,hb⟩
theorem kX {c:UInt8} (h:qP c = 16) (w:World) :
 Calls Tryz.prog 66 #[.string ⟨#[48,49,50,51,52,53,54,55,56,57,65,66,67,68,69,70]⟩,.int .u8 (c.toNat:Int)] w fun e w'=>e = .returned (.int .i64 (-1)) ∧ w = w' :=
 (fJ _ _ w).mono fun e w' ⟨he,hw⟩=>⟨by rw [he,LU,xT,xP,if_pos h],hw⟩
theorem kV {c:UInt8} {x:Nat} (h:qP c = x) (hx:x ≠ 16) (w:World) :
 Calls Tryz.prog 66 #[.string ⟨#[48,49,50,51,52,53,54,55,56,57,65,66,67,68,69,70]⟩,.int .u8 (c.toNat:Int)] w fun e w'=>e = .returned (.int .i64 (x:Int)) ∧ w = w' :=
 (fJ _ _ w).mono fun e w' ⟨he,hw⟩=>⟨by rw [he,LU,xT,xP,if_neg (by rw [h];exact hx),h],hw⟩
theorem qB (s:ByteArray) (w:World) (hs:s.size ≤ 1099511627776) :
 Calls Tryz.prog 148 #[.string s] w (MQ (AL s.data.toList) w):=by
 by_cases h2:s.size < 2
 ·have HR:=zh (EU h2);generalize AL s.data.toList = r at *
  go_enter Tryz.func148,Tryz.ntmps148
  go_wp2_with fail;go_ret2;exact ⟨by rw [HR.out];rfl,rfl⟩
 ·have HR:=zh (PR (s:=s) (by omega));generalize AL s.data.toList = r at *;have h0:0 < s.size:=by omega
  have h1:1 < s.size:=by omega
  have hl0:=KS s[0];have hl1:=KS s[1];have HV:=zh (show XG s[0] s[1] = if qP s[0] = 16 ∨ qP s[1] = 16 then none else if kM ((16 * qP s[0] + qP s[1]:Nat):Int) then none else some (UInt8.ofNat (16 * qP s[0] + qP s[1])) from rfl);obtain ⟨x,hx⟩:∃ x,qP s[0] = x:=⟨_,rfl⟩;obtain ⟨y,hy⟩:∃ y,qP s[1] = y:=⟨_,rfl⟩;rw [hx,hy] at HV;rw [hx] at hl0;rw [hy] at hl1;have HX:=zh hx;have HY:=zh hy;clear hx hy;by_cases hx:x = 16
  ·have HC1:=fun w=>zh (kX (HX.out.trans hx) w);have HRN:Hid (r = none):=by show _ = _;rw [HR.out,HV.out,if_pos (.inl hx)]
   clear HR HV;by_cases hy:y = 16
   ·have HC2:=fun w=>zh (kX (HY.out.trans hy) w);clear hx hy
    go_enter Tryz.func148,Tryz.ntmps148
    go_wp2_with fail;refine (HC1 _).out.mono ?_;rintro e w' ⟨rfl,rfl⟩;go_wp2_with fail;refine (HC2 _).out.mono ?_;rintro e w' ⟨rfl,rfl⟩;go_wp2_with fail;go_ret2;exact ⟨by rw [HRN.out];rfl,rfl⟩
   ·have HC2:=fun w=>zh (kV HY.out hy w);clear hx hy
    go_enter Tryz.func148,Tryz.ntmps148
    go_wp2_with fail;refine (HC1 _).out.mono ?_;rintro e w' ⟨rfl,rfl⟩;go_wp2_with fail;refine (HC2 _).out.mono ?_;rintro e w' ⟨rfl,rfl⟩;go_wp2_with fail;go_ret2;exact ⟨by rw [HRN.out];rfl,rfl⟩
  ·have HC1:=fun w=>zh (kV HX.out hx w);by_cases hy:y = 16
   ·have HC2:=fun w=>zh (kX (HY.out.trans hy) w);have HRN:Hid (r = none):=by show _ = _;rw [HR.out,HV.out,if_pos (.inr hy)]
    clear HR HV hx hy
    go_enter Tryz.func148,Tryz.ntmps148
    go_wp2_with fail;refine (HC1 _).out.mono ?_;rintro e w' ⟨rfl,rfl⟩;go_wp2_with fail;refine (HC2 _).out.mono ?_;rintro e w' ⟨rfl,rfl⟩;go_wp2_with fail;go_ret2;exact ⟨by rw [HRN.out];rfl,rfl⟩
   ·have HC2:=fun w=>zh (kV HY.out hy w);have ho:=YM x y (by omega) (by omega);have hlt:16 * x + y < 256:=by omega
    have HV2:Hid (r = if kM ((16 * x + y:Nat):Int) then none else some (UInt8.ofNat (16 * x + y))):=by
     show _ = _;rw [HR.out,HV.out,if_neg (fun h=>h.elim hx hy)]
    clear HR HV hx hy;have HO:=zh ho;clear ho
    go_enter Tryz.func148,Tryz.ntmps148
    go_wp2_with fail;refine (HC1 _).out.mono ?_;rintro e w' ⟨rfl,rfl⟩;go_wp2_with fail;refine (HC2 _).out.mono ?_;rintro e w' ⟨rfl,rfl⟩;have ho:=HO.out;go_wp2_with fail;have hcast:((16 * x + y:Nat):Int) = 16 * (x:Int) + (y:Int):=by omega
    rw [hcast] at HV2;clear hcast ho HO
    cases hp:kM (16 * (x:Int) + (y:Int))
    ·have HP:=zh hp;clear hp;refine (hO _ _).mono ?_;rintro e w' ⟨rfl,rfl⟩;rw [HP.out];go_wp2_with fail;go_ret2;have hv:((UInt8.ofNat (16 * x + y)).toNat:Int) = 16 * (x:Int) + (y:Int):=by
      rw [UInt8.toNat_ofNat_of_lt' (by exact hlt)];omega
     exact ⟨by rw [HV2.out,HP.out];show _ = Ending.returned (.tuple #[.int .u8 ((UInt8.ofNat (16 * x + y)).toNat:Int),.bool true]);rw [hv];rfl,rfl⟩
    ·have HP:=zh hp;clear hp;refine (hO _ _).mono ?_;rintro e w' ⟨rfl,rfl⟩;rw [HP.out];go_wp2_with fail;go_ret2;exact ⟨by rw [HV2.out,HP.out];rfl,rfl⟩
def SI (r:Option (List UInt8)) (w:World) (e:Ending) (w':World):Prop :=
 (match r with | some l=>e = .returned (.tuple #[.string ⟨l.toArray⟩,.bool true]) | none=>e = .returned (.tuple #[.string ⟨#[]⟩,.bool false])) ∧ Below w.heap.size w w'
theorem eX (s:ByteArray) (k:Nat) (h:k < s.size):s.data.toList.drop k = s[k] :: s.data.toList.drop (k + 1):=by
 rw [List.drop_eq_getElem_cons (by simpa using h)];rfl
theorem qV {s:ByteArray} {k:Nat} {acc:List UInt8} {r:Option (List UInt8)} (hk:k < s.size) (h:r = (jV (s.data.toList.drop k)).map (acc ++ ·)) (hp:kM (s[k].toNat) = true) :
 r = (jV (s.data.toList.drop (k + 1))).map ((acc ++ [s[k]]) ++ ·):=by
 rw [h,eX s k hk,rQ hp]
 cases jV (s.data.toList.drop (k + 1)) <;> simp
theorem qW {s:ByteArray} {k:Nat} {acc:List UInt8} {r:Option (List UInt8)} (hk:k < s.size) (h:r = (jV (s.data.toList.drop k)).map (acc ++ ·)) (hp:kM (s[k].toNat) = false) (h37:s[k] ≠ 37):r = none:=by
 rw [h,eX s k hk,DN hp h37];rfl
theorem vU {s:ByteArray} {k:Nat} {acc:List UInt8} {r:Option (List UInt8)} (hk:k < s.size) (h:r = (jV (s.data.toList.drop k)).map (acc ++ ·)) (h37:s[k] = 37) (he:AL (s.data.toList.drop (k + 1)) = none):r = none:=by
 rw [h,eX s k hk,h37,tL,he];rfl
theorem vT {s:ByteArray} {k:Nat} {acc:List UInt8} {r:Option (List UInt8)} {v:UInt8} (hk:k < s.size) (h:r = (jV (s.data.toList.drop k)).map (acc ++ ·)) (h37:s[k] = 37) (he:AL (s.data.toList.drop (k + 1)) = some v) :
 k + 3 ≤ s.size ∧ r = (jV (s.data.toList.drop (k + 3))).map ((acc ++ [v]) ++ ·):=by
 constructor
 ·have hl:2 ≤ (s.data.toList.drop (k + 1)).length:=by
   match s.data.toList.drop (k + 1),he with
   | [],he=>cases he
   | [_],he=>cases he
   | _ :: _ :: _,_=>simp
  rw [List.length_drop,← Lib.size_eq] at hl;omega
 ·rw [h,eX s k hk,h37,tL,he];simp only [List.drop_drop]
  cases jV (s.data.toList.drop (k + 3)) <;> simp
theorem SY {s:ByteArray} {acc:List UInt8} {r:Option (List UInt8)} (h:r = (jV (s.data.toList.drop s.size)).map (acc ++ ·)):r = some acc:=by
 rw [h,List.drop_of_length_le (by rw [← Lib.size_eq];exact Nat.le_refl _)];simp [jV]
theorem yF (s:ByteArray) (a:Nat):(s.extract a s.size).data.toList = s.data.toList.drop a:=by
 rw [Lib.extract_data,List.take_of_length_le (by rw [List.length_drop,← Lib.size_eq];exact Nat.le_refl _)]
theorem yA {s:ByteArray} {a:Nat} (h:AL (s.data.toList.drop a) = none) (hs:s.size ≤ 1099511627776) (w:World) :
 Calls Tryz.prog 148 #[.string (s.extract a s.size)] w fun e w'=>e = .returned (.tuple #[.int .u8 0,.bool false]) ∧ w = w' :=
 (qB (s.extract a s.size) w (by rw [ByteArray.size_extract];omega)).mono fun e w' hr=>by
  unfold MQ at hr;rw [yF,h] at hr;exact hr
theorem xZ {s:ByteArray} {a:Nat} {v:UInt8} (h:AL (s.data.toList.drop a) = some v) (hs:s.size ≤ 1099511627776) (w:World) :
 Calls Tryz.prog 148 #[.string (s.extract a s.size)] w fun e w'=>e = .returned (.tuple #[.int .u8 (v.toNat:Int),.bool true]) ∧ w = w' :=
 (qB (s.extract a s.size) w (by rw [ByteArray.size_extract];omega)).mono fun e w' hr=>by
  unfold MQ at hr;rw [yF,h] at hr;exact hr
theorem qH {s:ByteArray} (h:s.size = 0):s.data.toList = []:=List.eq_nil_of_length_eq_zero (by rw [← Lib.size_eq];exact h)
theorem FA {s:ByteArray} (h:s.size ≠ 0):s.data.toList ≠ []:=fun e=>h (by rw [Lib.size_eq,e];rfl)
theorem FK (s:ByteArray) (w:World) (hs:s.size ≤ 1099511627776) :
 Calls Tryz.prog 119 #[.string s] w (SI (gZ s.data.toList) w):=by
 by_cases h0:s.size = 0
 ·have HR:=zh (show gZ s.data.toList = none by rw [qH h0];rfl);have e0:s.toList = []:=by rw [Lib.toList_data];exact qH h0
  generalize gZ s.data.toList = r at *;clear h0
  go_enter Tryz.func119,Tryz.ntmps119
  go_wp2_with fail;go_ret2;exact ⟨by rw [HR.out];rfl,Below.refl _ _⟩
 ·have hne:=FA h0;have e0:s.toList.isEmpty = false:=by
   rw [Lib.toList_data,List.isEmpty_eq_false_iff];exact hne
  by_cases ht:s.data.toList = [126]
  ·have HR:=zh (show gZ s.data.toList = some [] by rw [ht];rfl);have e1:(s.toList == [126]) = true:=by rw [Lib.toList_data,ht];rfl
   generalize gZ s.data.toList = r at *;clear h0 hne ht
   go_enter Tryz.func119,Tryz.ntmps119
   go_wp2_with fail;go_ret2;exact ⟨by rw [HR.out];rfl,Below.refl _ _⟩
  ·have HR:=zh (show gZ s.data.toList = (jV (s.data.toList.drop 0)).map ([] ++ ·) by
    unfold gZ;rw [if_neg hne,if_neg ht,List.drop_zero];simp)
   have e1:(s.toList == [126]) = false:=by rw [Lib.toList_data,beq_eq_false_iff_ne];exact ht
   generalize gZ s.data.toList = r at *;obtain ⟨i0,hi0,hz0,hz1,hz2⟩:=info_parts Tryz.info5;have HI0:=zh hi0;have HZ0:=zh hz0;have HZ1:=zh hz1;have HZ2:=zh hz2;clear hi0 hz0 hz1 hz2 h0 hne ht
   go_enter Tryz.func119,Tryz.ntmps119
   go_wp2_with (at_make;refine wpList_make_own _ rfl _ _ 22 rfl w.heap.size 5 i0 (.int .u8 0) 1 Tryz.underlying22 HI0.out HZ0.out HZ1.out _ _ _ s.size rfl rfl (by omega) (by rw [HZ2.out];omega) (by unfold maxLen;omega) (Nat.le_refl _) ?_;intro w0 hown0 hg0;have HO0:=zh hown0;clear hown0)
   have hb0:Below w.heap.size w w0:=(Below.refl _ _).grown hg0 (Nat.le_refl _) (by intro k hk;cases hk);clear hg0
   go_loopw [4,5] (fun v i wr=>∃ (k:Nat) (acc:List UInt8),k ≤ s.size ∧ i = .int .i64 k ∧ acc.length ≤ k ∧ Hid (r = (jV (s.data.toList.drop k)).map (acc ++ ·)) ∧ Hid (wr.ownsRow w.heap.size 5 1 v acc.length (Lib.byteCells acc)) ∧ Below w.heap.size w wr) (fun _ i _=>s.size - (intOf i).toNat)
   case atStart=>exact ⟨0,[],by omega,rfl,by simp,HR.out,HO0.out,hb0⟩
   case round =>
    clear HR HO0 hb0;obtain ⟨k,acc,hk,rfl,hal,HA,hown,hbe⟩:=hrel;have hbs:=hbe.size;by_cases hlt:k < s.size
    ·by_cases h37:s[k] = 37
     ·have b37:((s[k].toNat:Int) == 37) = true:=by rw [h37];rfl
      cases he:AL (s.data.toList.drop (k + 1))
      ·have HE:=fun w=>zh (yA he hs w);have HN:=zh (vU hlt HA.out h37 he);clear he h37 HA
       go_wp2_with (go_at_call 148;refine (HE _).out.mono ?_;rintro e w' ⟨rfl,rfl⟩)
       go_ret2;exact ⟨by rw [HN.out];rfl,hbe⟩
      ·rename_i c
       have HE:=fun w=>zh (xZ he hs w);obtain ⟨h3,hn⟩:=vT hlt HA.out h37 he;have HN:=zh hn;clear he h37 HA hn
       go_wp2_with (first
        | (go_at_call 148;refine (HE _).out.mono ?_;rintro e w' ⟨rfl,rfl⟩)
        | (at_builtin;refine wpList_append_own _ rfl (.tmp 42) (.tmp 44) 22 rfl w.heap.size 5 i0 (.int .u8 0) 1 1 Tryz.underlying22 HI0.out HZ0.out HZ1.out HZ2.out rfl (by decide) _ _ _ rfl (hown.out.alloc _) ⟨wr.heap.size,0,none⟩ 1 1 [.int .u8 (c.toNat:Int)] rfl rfl (cell_one_new _ _ _) (by intro u hu;simp at hu;subst hu;rfl) (by unfold maxLen;omega) (by omega) (by simp;omega) ?_;intro v' w1 hown1 hg1 _;have HO1:=zh hown1;clear hown1))
       go_roundw
       case rel =>
        refine ⟨k + 3,acc ++ [c],by omega,by go_num,by simp;omega,HN.out,?_,(hbe.alloc hbs _).grown hg1 (by simp;omega) (dS hown.out)⟩;have:=HO1.out;show World.ownsRow _ _ _ _ _ _ _;simpa [Lib.byteCells_append,Lib.byteCells,Nat.add_assoc] using this
       case measure=>simp [intOf];omega
     ·have b37:((s[k].toNat:Int) == 37) = false:=by
       rw [beq_eq_false_iff_ne];intro h;exact h37 (UInt8.toNat_inj.1 (by show s[k].toNat = 37;omega))
      cases hp:kM (s[k].toNat)
      ·have HN:=zh (qW hlt HA.out hp h37);have HP:=zh hp;clear hp h37 HA
       go_wp2_with (go_at_call 80;refine (hO _ _).mono ?_;rintro e w' ⟨rfl,rfl⟩;rw [HP.out])
       go_ret2;exact ⟨by rw [HN.out];rfl,hbe⟩
      ·have HN:=zh (qV hlt HA.out hp);have HP:=zh hp;clear hp h37 HA
       go_wp2_with (first
        | (go_at_call 80;refine (hO _ _).mono ?_;rintro e w' ⟨rfl,rfl⟩;rw [HP.out])
        | (at_builtin;refine wpList_append_own _ rfl (.tmp 42) (.tmp 44) 22 rfl w.heap.size 5 i0 (.int .u8 0) 1 1 Tryz.underlying22 HI0.out HZ0.out HZ1.out HZ2.out rfl (by decide) _ _ _ rfl (hown.out.alloc _) ⟨wr.heap.size,0,none⟩ 1 1 [.int .u8 (s[k].toNat:Int)] rfl rfl (cell_one_new _ _ _) (by intro u hu;simp at hu;subst hu;rfl) (by unfold maxLen;omega) (by omega) (by simp;omega) ?_;intro v' w1 hown1 hg1 _;have HO1:=zh hown1;clear hown1))
       go_roundw
       case rel =>
        refine ⟨k + 1,acc ++ [s[k]],by omega,by go_num,by simp;omega,HN.out,?_,(hbe.alloc hbs _).grown hg1 (by simp;omega) (dS hown.out)⟩;have:=HO1.out;show World.ownsRow _ _ _ _ _ _ _;simpa [Lib.byteCells_append,Lib.byteCells,Nat.add_assoc] using this
       case measure=>simp [intOf];omega
    ·obtain rfl:k = s.size:=by omega
     have HN:=zh (SY HA.out);have hcv:=kJ hown.out;clear HA;go_wp2_with fail;go_ret2;exact ⟨by rw [HN.out];rfl,hbe⟩
theorem lO (s:ByteArray) (c:Int) (w:World) :
 Calls Tryz.prog 105 #[.string s,.int .u8 c] w fun e w'=>e = .returned (.int .i64 (Lib.indexByte s.data.toList c.toNat.toUInt8)) ∧ w = w':=by
 go_enter Tryz.func105,Tryz.ntmps105
 go_wp2
 rw [run_callFunc_extern Tryz.func137 (by kernel_rfl) (by kernel_rfl) (by kernel_rfl) (e:=Extern.BytealgIndexByte.indexByte) (by kernel_rfl),Lib.run_indexByteString];simp only [Result.andThen];rw [Oper.upon_value]
 go_wp2
 go_ret;exact ⟨rfl,rfl⟩
def eN (c:UInt8):ByteArray:=⟨#[c]⟩
theorem jI (c:UInt8):(eN c).size = 1:=rfl
theorem JM (c:UInt8) (h:0 < (eN c).size):(eN c)[0] = c:=rfl
theorem iP (s:ByteArray) (c:UInt8):Lib.indexB s (eN c) = Lib.indexByte s.data.toList c:=by
 show Lib.index s.data.toList [c] = _;exact Lib.index_one _ _
theorem tB (c:UInt8):((c.toNat:Int)).toNat.toUInt8 = c:=by simp
theorem rC (s:ByteArray) (c:UInt8) (w:World) :
 Calls Tryz.prog 152 #[.string s,.string (eN c)] w fun e w'=>e = .returned (.int .i64 (Lib.indexB s (eN c))) ∧ w = w':=by
 have hsz:=jI c;have hat:=JM c;rw [iP];have hne:(eN c).toList ≠ []:=by rw [Lib.toList_data];simp [eN]
 by_cases h:((eN c).toList == s.toList) = true
 ·have hl:s.data.toList = [c]:=by rw [beq_iff_eq,Lib.toList_data,Lib.toList_data] at h;exact h.symm
  have HI:Hid (Lib.indexByte s.data.toList c = 0):=by show _ = _;rw [hl];simp [Lib.indexByte]
  clear hl
  go_enter Tryz.func152,Tryz.ntmps152
  go_wp2_with fail;go_ret;exact ⟨by rw [HI.out];rfl,rfl⟩
 ·have h:((eN c).toList == s.toList) = false:=by simpa using h
  have HC:=zh (fun w=>lO s (c.toNat:Int) w);have HB:=zh (tB c)
  go_enter Tryz.func152,Tryz.ntmps152
  go_wp2_with fail;refine (HC.out _).mono ?_;rintro e w' ⟨rfl,rfl⟩;rw [HB.out];go_wp2_with fail;go_ret;exact ⟨rfl,rfl⟩
theorem EN (s:ByteArray) (c:UInt8) (w:World) :
 Calls Tryz.prog 123 #[.string s,.string (eN c)] w fun e w'=>e = .returned (.int .i64 (Lib.indexB s (eN c))) ∧ w = w':=by
 go_enter Tryz.func123,Tryz.ntmps123
 go_wp2_with (go_at_call 152;refine (rC _ _ _).mono ?_;rintro e w' ⟨rfl,rfl⟩)
 go_ret;exact ⟨rfl,rfl⟩
theorem AQ (s:ByteArray) (c:UInt8):Lib.countB s (eN c) = Lib.countByte s.data.toList c:=by
 show Lib.count s.data.toList [c] = _;exact Lib.count_one _ _
theorem FC (s:ByteArray) (c:UInt8) (w:World) :
 Calls Tryz.prog 122 #[.string s,.string (eN c)] w fun e w'=>e = .returned (.int .i64 (Lib.countB s (eN c):Int)) ∧ w = w':=by
 have hsz:=jI c;have hat:=JM c;rw [AQ];have HB:=zh (tB c)
 go_enter Tryz.func122,Tryz.ntmps122
 go_wp2_with fail;rw [run_callFunc_extern Tryz.func151 (by kernel_rfl) (by kernel_rfl) (by kernel_rfl) (e:=Extern.BytealgCount.count) (by kernel_rfl),Lib.run_countString,HB.out];simp only [Result.andThen];rw [Oper.upon_value];go_wp2_with fail;go_ret;exact ⟨rfl,rfl⟩
theorem oX:(Tryz.prog.info? 9).map (fun i=>(i.zero,i.size,i.bytes)) = some (some (.string ByteArray.empty),1,16):=by kernel_rfl
theorem makeS (n:Nat) (h:n ≤ 100000000) (w:World):(Instr.makeSlice 55 (.int .i64 ((n:Int) + 1)) (.int .i64 ((n:Int) + 1))).run Tryz.prog w = .ok (.slice (some ⟨w.heap.size,0,none⟩) (n + 1) (n + 1)) (w.alloc (.cells (Lib.cellsOf [] (n + 1)) 9)):=by
 have h1:=run_make_row' (P:=Tryz.prog) 55 9 (.string ByteArray.empty) 16 Tryz.underlying55 oX rfl .i64 .i64 (n + 1) (by omega) (by omega) w;rw [← Lib.cellsOf_nil] at h1;exact h1
theorem nK (s:ByteArray) (c:UInt8) (h:Lib.indexB s (eN c) = -1) (m:Nat):Lib.splitB (eN c) 0 m s = [s]:=Lib.splitB_miss _ _ _ _ h
theorem uC (s:ByteArray) (c:UInt8) (w:World) (hs:s.size ≤ 10000000) :
 Calls Tryz.prog 88 #[.string s,.string (eN c),.int .i64 0,.int .i64 (-1)] w fun e w'=>e = .returned (.slice (some ⟨w.heap.size,0,none⟩) (Lib.countB s (eN c) + 1) (Lib.countB s (eN c) + 1)) ∧
  w' = w.alloc (.cells ((Lib.splitB (eN c) 0 (Lib.countB s (eN c)) s).map Value.string).toArray 9):=by
 have hsz:=jI c;have hne:(eN c).toList ≠ []:=by rw [Lib.toList_data];simp [eN]
 have hn1:((eN c).toList == []) = false:=by simpa using hne
 have hn2:(eN c).toList.isEmpty = false:=by simpa using hne
 have hle:=Lib.countB_le (eN c) (by rw [hsz];exact Nat.le_refl _) s.size s (Nat.le_refl _);have hall:=Lib.splitB_all (eN c) (by rw [hsz];exact Nat.le_refl _) 0 _ s rfl;have HC:=zh (fun w=>FC s c w);have HIX:=zh (fun r w=>EN r c w);obtain ⟨N,hN⟩:∃ N,Lib.countB s (eN c) = N:=⟨_,rfl⟩;rw [hN] at hle hall HC ⊢;obtain ⟨ps,hps⟩:∃ ps,Lib.splitB (eN c) 0 N s = ps:=⟨_,rfl⟩;rw [hps] at hall ⊢;have SQ:=zh hall;have HPS:=zh hps;have hmin:min ((N:Int) + 1) ((s.size:Int) + 1) = (N:Int) + 1:=Int.min_eq_left (by omega);have hmk:=makeS N (by omega);have q1:(N:Int) ≤ 10000000:=by omega
 clear hN hall hps
 go_enter Tryz.func88,Tryz.ntmps88
 go_wp2_with fail;refine (HC.out _).mono ?_;rintro e w' ⟨rfl,rfl⟩;go_wp2_with fail;clear hmk hmin HC
 go_loopw [0,10] (fun sv iv wr=>∃ (done:List ByteArray) (rest:ByteArray),sv = .string rest ∧ iv = .int .i64 (done.length:Int) ∧ done.length ≤ N ∧ rest.size ≤ s.size ∧ Hid (done ++ Lib.splitB (eN c) 0 (N - done.length) rest = ps) ∧ wr = w.alloc (.cells (Lib.cellsOf done (N + 1)) 9)) (fun _ iv _=>N - (intOf iv).toNat)
 case atStart=>exact ⟨[],s,rfl,rfl,Nat.zero_le _,Nat.le_refl _,HPS.out,rfl⟩
 case round =>
  obtain ⟨done,rest,rfl,rfl,hd,hrs,HS,rfl⟩:=hrel;have hnext:(Lib.cellsOf done (N + 1))[done.length]? = some (.string ByteArray.empty):=Lib.cellsOf_next (by omega);have hcz:=Lib.cellsOf_size (done:=done) (N:=N + 1) (by omega);have XK:=zh (fun x=>Lib.cellsOf_set (done:=done) (N:=N + 1) (by omega) x);obtain ⟨k,hk⟩:∃ k,done.length = k:=⟨_,rfl⟩;rw [hk] at hnext XK hd HS ⊢;have HK:=zh hk;have p1:(0:Int) ≤ (k:Int):=by omega
  have p2:(k:Int) < (N:Int) + 1:=by omega
  by_cases hlt:k < N
  ·have hdl:decide ((k:Int) < (N:Int)) = true:=by simp;omega
   rcases Lib.indexB_cases rest (eN c) with hix | ⟨i,hix,hroom⟩
   ·exfalso;have e:=HS.out;rw [nK rest c hix] at e;have:=SQ.out;rw [← e,List.length_append,hk] at this;simp at this;omega
   ·have HI:=zh hix;have hr1:i + 1 ≤ rest.size:=hroom;have HSN:Hid ((done ++ [rest.extract 0 i]) ++ Lib.splitB (eN c) 0 (N - (k + 1)) (rest.extract (i + 1) rest.size) = ps):=by
     show _ = _;have e:=HS.out;rw [show N - k = (N - (k + 1)) + 1 by omega,Lib.splitB_hit (eN c) 0 _ rest i hix] at e;rw [← e,List.append_assoc];rfl
    have c0:decide ((i:Int) < 0) = false:=by simp
    have c1:(0:Int) ≤ (i:Int):=by omega
    have c2:(i:Int) ≤ (rest.size:Int):=by omega
    have c3:(0:Int) ≤ (i:Int) + 1:=by omega
    have c4:(i:Int) + 1 ≤ (rest.size:Int):=by omega
    have c5:((i:Int) + 1).toNat = i + 1:=by omega
    have c6:(i:Int) ≤ 10000000:=by omega
    clear hix hroom hk;go_wp2_with fail;refine (HIX.out rest _).mono ?_;rintro e w' ⟨rfl,rfl⟩;rw [HI.out];go_wp2_with fail;go_roundw
    case rel =>
     refine ⟨done ++ [rest.extract 0 i],_,rfl,?_,?_,?_,?_,?_⟩
     ·rw [List.length_append,HK.out];go_num
     ·rw [List.length_append,HK.out];exact hlt
     ·rw [ByteArray.size_extract];omega
     ·rw [List.length_append,HK.out];exact HSN
     ·rw [XK.out]
    case measure=>simp [intOf];omega
  ·obtain rfl:k = N:=by omega
   have hdl:decide ((k:Int) < (k:Int)) = false:=by simp
   have HF:Hid ((Lib.cellsOf done (k + 1)).setIfInBounds k (.string rest) = (ps.map Value.string).toArray):=by
    show _ = _;have e:=HS.out;rw [Nat.sub_self] at e;have e2:done ++ [rest] = ps:=e;rw [XK.out,e2];have:=Lib.cellsOf_full ps;rw [SQ.out] at this;exact this
   have p3:(0:Int) ≤ (k:Int) + 1:=by omega
   have p4:((k:Int) + 1).toNat = k + 1:=by omega
   clear hk;go_wp2_with fail;go_ret;refine ⟨rfl,?_⟩;rw [← HF.out]
theorem rU (s:ByteArray) (c:UInt8) (w:World) (hs:s.size ≤ 10000000) :
 Calls Tryz.prog 51 #[.string s,.string (eN c)] w fun e w'=>e = .returned (.slice (some ⟨w.heap.size,0,none⟩) (Lib.countB s (eN c) + 1) (Lib.countB s (eN c) + 1)) ∧
  w' = w.alloc (.cells ((Lib.splitB (eN c) 0 (Lib.countB s (eN c)) s).map Value.string).toArray 9):=by
 have HC:=zh (fun w=>uC s c w hs);clear hs
 go_enter Tryz.func51,Tryz.ntmps51
 go_wp2_with fail;refine (HC.out _).mono ?_;rintro e w' ⟨rfl,rfl⟩;go_wp2_with fail;go_ret;exact ⟨rfl,rfl⟩
end Go.Proofs.YtaeobegaodhpcaaGreatDoor
