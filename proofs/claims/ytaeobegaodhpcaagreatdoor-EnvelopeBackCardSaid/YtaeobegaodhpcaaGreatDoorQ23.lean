/-
  The walk of the reference's Number: for every int64.
-/
import Derived.Test.YtaeobegaodhpcaaGreatDoorZip
import Derived.Test.YtaeobegaodhpcaaGreatDoorQ22
set_option maxRecDepth 100000
set_option maxHeartbeats 8000000
namespace Go.Proofs.YtaeobegaodhpcaaGreatDoor
open Go.RowKit
end Go.Proofs.YtaeobegaodhpcaaGreatDoor
namespace Go.Proofs.YtaeobegaodhpcaaGreatDoor
open Go.RowKit Go.Proofs.YtaeobegaodhpcaaGreatDoor.One
theorem CM:(Tryz.prog.info? 9).map (fun i=>(i.zero,i.size,i.bytes)) = some (some (.string ⟨#[]⟩),1,16):=by kernel_rfl
def OwnW (w:World) (base:Nat) (v:Value) (l:List ByteArray):Prop:=w.ownsRow base 9 1 v l.length (l.map Value.string)
theorem OwnW.below {w w':World} {base:Nat} {v:Value} {l:List ByteArray} (h:OwnW w base v l) (hb:Below w.heap.size w w'):OwnW w' base v l:=dR h hb
theorem OwnW.base {w:World} {b b':Nat} {v:Value} {l:List ByteArray} (h:OwnW w b v l) (hb:b' ≤ b):OwnW w b' v l:=by
 obtain ⟨hl,h1 | ⟨g,cap,cur,e,hbg,rest⟩⟩:=h
 ·exact ⟨hl,.inl h1⟩
 ·exact ⟨hl,.inr ⟨g,cap,cur,e,Nat.le_trans hb hbg,rest⟩⟩
theorem OwnW.strs {w:World} {base:Nat} {sp:Option Addr} {n cap:Nat} {l:List ByteArray} (h:OwnW w base (.slice sp n cap) l) (hn:l.length = n):StrsIn w w.heap.size sp n l:=by
 refine ⟨hn,fun h0=>?_⟩;obtain ⟨hl,⟨e,e0⟩ | ⟨g,cap',cur,e,hb,hg,hc,hm,hs,ht⟩⟩:=h
 ·omega
 ·injection e with e1 e2 e3
  refine ⟨g,0,e1,(Array.getElem?_eq_some_iff.1 hg).1,fun j hj=>?_⟩;rw [cell_of_row w g (0 + j) _ _ _ hg,Nat.zero_add];have h6:(l.map Value.string)[j]? = some (.string l[j]):=by rw [List.getElem?_map,List.getElem?_eq_getElem hj];rfl
  rw [← ht,List.getElem?_take,if_pos (by omega)] at h6;simpa using h6
def kY (x:List Int):ByteArray:=⟨(qQ x).toArray⟩
def oU (l:Int):ByteArray:=⟨(Lib.itoa l).toArray⟩
def eP (l:Int) (cl pl:List (List Int)):List ByteArray:=[oU l] ++ cl.map kY ++ pl.map kY
structure SxBox (w:World) (l:Int) (c p:Value) (w0:World):Prop where
 s:w0.heap[w.heap.size]? = some (.cells (siA l c p) 48 (0,0))
 b:Below w.heap.size w w0
 k:w0.heap.size = w.heap.size + 1
theorem SxBox.new (w:World) (l:Int) (c p:Value):SxBox w l c p (w.alloc (.cells (siA l c p) 48)):=⟨heap_alloc_new w _,aA _ _,aD _ _⟩
end Go.Proofs.YtaeobegaodhpcaaGreatDoor
namespace Go.Proofs.YtaeobegaodhpcaaGreatDoor
open Go.RowKit
def hexd:List UInt8:=[48,49,50,51,52,53,54,55,56,57,97,98,99,100,101,102]
def sM (c:UInt8):Nat:=if 48 ≤ c.toNat ∧ c.toNat ≤ 57 then c.toNat - 48 else if 97 ≤ c.toNat ∧ c.toNat ≤ 102 then c.toNat - 87 else 16
theorem KP (c:UInt8):sM c ≤ 16:=by unfold sM;split <;> (try split) <;> omega
theorem AF:∀ c:Fin 256,Lib.indexByte hexd (UInt8.ofNat c.val) = if sM (UInt8.ofNat c.val) = 16 then -1 else (sM (UInt8.ofNat c.val):Int):=by decide +kernel
theorem EL (c:UInt8):Lib.indexByte hexd c = if sM c = 16 then -1 else (sM c:Int):=by
 have h:=AF ⟨c.toNat,UInt8.toNat_lt _⟩;simpa using h
def hby (l:List UInt8) (i:Nat):Int:=((16 * sM (l.getD (2 * i) 0) + sM (l.getD (2 * i + 1) 0):Nat):Int)
def UV (l:List UInt8) (i:Nat):Bool:=decide (sM (l.getD (2 * i) 0) < 16) && decide (sM (l.getD (2 * i + 1) 0) < 16)
def hok (l:List UInt8) (n:Nat):Bool:=(List.range n).all (UV l)
def hbs (l:List UInt8) (n:Nat):List Int:=(List.range n).map (hby l)
theorem fO (l:List UInt8) (n:Nat):(hbs l n).length = n:=by simp [hbs]
theorem PG (l:List UInt8) (k:Nat):hok l (k + 1) = (hok l k && UV l k):=by unfold hok;rw [List.range_succ,List.all_append];simp
theorem PI (l:List UInt8) (k:Nat):hbs l (k + 1) = hbs l k ++ [hby l k]:=by unfold hbs;rw [List.range_succ,List.map_append];rfl
theorem UT {l:List UInt8} {k n:Nat} (h:UV l k = false) (hk:k < n):hok l n = false:=by
 unfold hok;rw [List.all_eq_false];exact ⟨k,by simpa using hk,by rw [h];simp⟩
theorem SU (l:List UInt8) (L0:List Int) (n k:Nat) (hl:L0.length = n) (hk:k < n):(hbs l k ++ L0.drop k).set k (hby l k) = hbs l (k + 1) ++ L0.drop (k + 1):=by
 rw [List.set_append_right _ _ (by rw [fO];exact Nat.le_refl _),fO,Nat.sub_self,PI,List.drop_eq_getElem_cons (l:=L0) (i:=k) (by omega),List.append_assoc];rfl
theorem rM (l:List UInt8) (L0:List Int) (n k:Nat) (hl:L0.length = n) (hk:k ≤ n):(hbs l k ++ L0.drop k).length = n:=by
 rw [List.length_append,fO,List.length_drop];omega
theorem OR:∀ a b:Fin 16,(bits .or .i64 ((a.val:Int) * 16) (b.val:Int)) = ((16 * a.val + b.val:Nat):Int):=by decide +kernel
theorem UG (a b:Nat) (ha:a < 16) (hb:b < 16):bits .or .i64 ((a:Int) * 16) (b:Int) = ((16 * a + b:Nat):Int):=OR ⟨a,ha⟩ ⟨b,hb⟩
theorem EO:∀ n:Fin 16,sM (KR n.val) = n.val:=by decide +kernel
theorem lQ (n:Nat) (h:n < 16):sM (KR n) = n:=EO ⟨n,h⟩
theorem KU (a:List Int) (i:Nat) (h:i < a.length):(qQ a).getD (2 * i) 0 = KR ((a.getD i 0).toNat / 16) ∧ (qQ a).getD (2 * i + 1) 0 = KR ((a.getD i 0).toNat % 16):=by
 induction a generalizing i with
 | nil=>simp at h
 | cons x r ih =>
   match i with
   | 0=>exact ⟨rfl,rfl⟩
   | j + 1 =>
     have:=ih j (by simpa using h);rw [show 2 * (j + 1) = 2 * j + 1 + 1 by omega];exact this
theorem PH (a:List Int) (ha:Byt a):hok (qQ a) a.length = true:=by
 unfold hok;rw [List.all_eq_true];intro i hi;have hi':i < a.length:=by simpa using hi
 have hx:=ha.at_ i;obtain ⟨h1,h2⟩:=KU a i hi';unfold UV;rw [h1,h2,lQ _ (by omega),lQ _ (by omega),decide_eq_true (by omega),decide_eq_true (by omega)];rfl
theorem PJ (a:List Int) (ha:Byt a):hbs (qQ a) a.length = a:=by
 apply List.ext_getElem
 ·rw [fO]
 ·intro i h1 h2;have hx:=ha.at_ i;obtain ⟨e1,e2⟩:=KU a i h2;have e:(hbs (qQ a) a.length)[i] = hby (qQ a) i:=by simp [hbs]
  rw [e];unfold hby;rw [e1,e2,lQ _ (by omega),lQ _ (by omega)];have:a.getD i 0 = a[i]:=by simp [List.getD_eq_getElem?_getD,List.getElem?_eq_getElem h2]
  rw [this] at hx ⊢;omega
theorem lP (s:ByteArray) (c:Int) (w:World) :
 Calls Tryz.prog 105 #[.string s,.int .u8 c] w fun e w'=>e = .returned (.int .i64 (Lib.indexByte s.data.toList c.toNat.toUInt8)) ∧ w = w':=by
 go_enter Tryz.func105,Tryz.ntmps105
 go_wp2
 rw [run_callFunc_extern Tryz.func137 (by kernel_rfl) (by kernel_rfl) (by kernel_rfl) (e:=Extern.BytealgIndexByte.indexByte) (by kernel_rfl),Lib.run_indexByteString];simp only [Result.andThen];rw [Oper.upon_value]
 go_wp2
 go_ret;exact ⟨rfl,rfl⟩
theorem rD (s:ByteArray) (c:Int) (w:World) :
 Calls Tryz.prog 66 #[.string s,.int .u8 c] w fun e w'=>e = .returned (.int .i64 (Lib.indexByte s.data.toList c.toNat.toUInt8)) ∧ w = w':=by
 go_enter Tryz.func66,Tryz.ntmps66
 go_wp2_with (go_at_call 105;refine (lP _ _ _).mono ?_;rintro e w' ⟨rfl,rfl⟩)
 go_ret;exact ⟨rfl,rfl⟩
theorem VZ (c:UInt8):((c.toNat:Int)).toNat.toUInt8 = c:=by simp
theorem KQ (c:UInt8) (w:World) :
 Calls Tryz.prog 66 #[.string ⟨#[48,49,50,51,52,53,54,55,56,57,97,98,99,100,101,102]⟩,.int .u8 (c.toNat:Int)] w fun e w'=>e = .returned (.int .i64 (if sM c = 16 then -1 else (sM c:Int))) ∧ w = w' :=
 (rD _ _ w).mono fun e w' ⟨he,hw⟩=>⟨by rw [he,VZ,← EL];rfl,hw⟩
theorem xV (s:ByteArray) (i:Nat) (h:i < s.size):s.data.toList.getD i 0 = s[i]:=by
 rw [List.getD_eq_getElem?_getD,List.getElem?_eq_getElem (by simpa using h)];rfl
theorem GP (g:Nat) (ty:TypeId) (L0:List Int) (n:Nat) (s:ByteArray) (w:World) (hrow:RowIn w g ty .u8 L0) (hl:L0.length = n) (hn:n ≤ 64) :
 Calls Tryz.prog 120 #[.slice (some ⟨g,0,none⟩) n n,.string s] w fun e w'=>∃ L:List Int,e = .returned (.bool (decide (s.size = 2 * n) && hok s.data.toList n)) ∧ L.length = n ∧ RowIn w' g ty .u8 L ∧ w.grownBy w' (some g) ∧ ((decide (s.size = 2 * n) && hok s.data.toList n) = true → L = hbs s.data.toList n):=by
 have HR:=zh hrow;have HL:=zh hl;clear hrow hl;by_cases hsz:s.size = 2 * n
 ·have HSZ:=zh hsz;have ht:((s.size:Int) != 2 * (n:Int)) = false:=by rw [bne_eq_false_iff_eq];omega
  go_enter Tryz.func120,Tryz.ntmps120
  go_wp2_with fail
  go_loopw [16] (fun i wr=>∃ k:Nat,k ≤ n ∧ i = .int .i64 k ∧ Hid (hok s.data.toList k = true) ∧ Hid (RowIn wr g ty .u8 (hbs s.data.toList k ++ L0.drop k)) ∧ Hid (w.grownBy wr (some g))) (fun i _=>n - (intOf i).toNat)
  case atStart=>exact ⟨0,by omega,rfl,rfl,HR.out,World.grownBy.refl _ _⟩
  case round =>
   obtain ⟨k,hk,rfl,hok0,hrow,hgr⟩:=hrel;by_cases hlt:k < n
   ·have hd:decide ((k:Int) < (n:Int)) = true:=by simp;omega
    have p0:2 * k < s.size:=by omega
    have p1:2 * k + 1 < s.size:=by omega
    have p2:(0:Int) ≤ (k:Int):=by omega
    have p3:(k:Int) < (n:Int):=by omega
    have p4:(0:Int) ≤ 2 * (k:Int):=by omega
    have p5:2 * (k:Int) < (s.size:Int):=by omega
    have p6:(0:Int) ≤ 2 * (k:Int) + 1:=by omega
    have p7:2 * (k:Int) + 1 < (s.size:Int):=by omega
    have p8:(2 * (k:Int)).toNat = 2 * k:=by omega
    have p9:(2 * (k:Int) + 1).toNat = 2 * k + 1:=by omega
    have c0:=hrow.out.get k (by rw [rM _ _ n k HL.out hk];exact hlt);have f0:=hrow.out.free k;obtain ⟨y,hy⟩:∃ y,(hbs s.data.toList k ++ L0.drop k).getD k 0 = y:=⟨_,rfl⟩;rw [hy] at c0;clear hy;have g0:=xV s (2 * k) p0;have g1:=xV s (2 * k + 1) p1;have hl0:=KP s[2 * k];have hl1:=KP s[2 * k + 1];obtain ⟨x,hx⟩:∃ x,sM s[2 * k] = x:=⟨_,rfl⟩;obtain ⟨z,hz⟩:∃ z,sM s[2 * k + 1] = z:=⟨_,rfl⟩;have HO1:Hid (UV s.data.toList k = (decide (x < 16) && decide (z < 16))):=by show _ = _;unfold UV;rw [g0,g1,hx,hz]
    have HBY:Hid (hby s.data.toList k = ((16 * x + z:Nat):Int)):=by show _ = _;unfold hby;rw [g0,g1,hx,hz]
    have HC0:=zh (fun w=>KQ s[2 * k] w);have HC1:=zh (fun w=>KQ s[2 * k + 1] w);rw [hx] at HC0 hl0;rw [hz] at HC1 hl1;have XK:=zh (SU s.data.toList L0 n k HL.out hlt);have HSUC:=zh (PG s.data.toList k);clear g0 g1 hx hz;have mG:=hrow;have HGR:=hgr;clear hrow hgr;by_cases hbad:x = 16 ∨ z = 16
    ·have HF:Hid ((decide (s.size = 2 * n) && hok s.data.toList n) = false):=by
      show _ = _;rw [UT (k:=k) (by rw [HO1.out];rcases hbad with h | h <;> simp [h]) hlt,Bool.and_false]
     have HWL:=zh (rM s.data.toList L0 n k HL.out hk);have main:∀ (hi lo:Int),(if x = 16 then (-1:Int) else (x:Int)) = hi → (if z = 16 then (-1:Int) else (z:Int)) = lo → hi < 0 ∨ (¬ hi < 0 ∧ lo < 0):=by
      intro hi lo h1 h2;rcases hbad with h | h
      ·left;rw [if_pos h] at h1;omega
      ·by_cases hh:x = 16
       ·left;rw [if_pos hh] at h1;omega
       ·right;rw [if_neg hh] at h1;rw [if_pos h] at h2;exact ⟨by omega,by omega⟩
     obtain ⟨hi,hhi⟩:∃ v,(if x = 16 then (-1:Int) else (x:Int)) = v:=⟨_,rfl⟩;obtain ⟨lo,hlo⟩:∃ v,(if z = 16 then (-1:Int) else (z:Int)) = v:=⟨_,rfl⟩;have hm:=main hi lo hhi hlo;rw [hhi] at HC0;rw [hlo] at HC1;clear main hhi hlo hbad HO1 HBY XK HSUC;rcases hm with hn0 | ⟨hn0,hn1⟩
     ·have e1:decide (hi < 0) = true:=by simp;omega
      go_wp2_with fail;refine (HC0.out _).mono ?_;rintro e w5 ⟨rfl,rfl⟩;go_wp2_with fail;refine (HC1.out _).mono ?_;rintro e w5 ⟨rfl,rfl⟩;go_wp2_with fail;go_ret;exact ⟨_,by rw [HF.out];rfl,HWL.out,mG.out,HGR.out,fun h=>by rw [HF.out] at h;cases h⟩
     ·have e1:decide (hi < 0) = false:=by simp;omega
      have e2:decide (lo < 0) = true:=by simp;omega
      go_wp2_with fail;refine (HC0.out _).mono ?_;rintro e w5 ⟨rfl,rfl⟩;go_wp2_with fail;refine (HC1.out _).mono ?_;rintro e w5 ⟨rfl,rfl⟩;go_wp2_with fail;go_ret;exact ⟨_,by rw [HF.out];rfl,HWL.out,mG.out,HGR.out,fun h=>by rw [HF.out] at h;cases h⟩
    ·have hx16:x < 16:=by omega
     have hz16:z < 16:=by omega
     rw [if_neg (by omega)] at HC0 HC1;have HOK:Hid (hok s.data.toList (k + 1) = true):=by show _ = _;rw [HSUC.out,hok0.out,HO1.out,decide_eq_true hx16,decide_eq_true hz16];rfl
     have hor:=UG x z hx16 hz16;obtain ⟨m,hm⟩:∃ m,16 * x + z = m:=⟨_,rfl⟩;rw [hm] at HBY hor;have hm256:m < 256:=by omega
     have hw1:((m:Nat):Int) % 256 = (m:Int):=by omega
     have e1:decide ((x:Int) < 0) = false:=by simp
     have e2:decide ((z:Int) < 0) = false:=by simp
     clear HO1 HSUC hbad hm;go_wp2_with fail;refine (HC0.out _).mono ?_;rintro e w5 ⟨rfl,rfl⟩;go_wp2_with fail;refine (HC1.out _).mono ?_;rintro e w5 ⟨rfl,rfl⟩;go_wp2_with fail;go_roundw
     case rel =>
      refine ⟨k + 1,by omega,by go_num,HOK,?_,bM HGR.out _ _⟩;have:=mG.out.put k (hby s.data.toList k);rw [XK.out,HBY.out] at this;exact this
     case measure=>simp [intOf];omega
   ·obtain rfl:k = n:=by omega
    have hd:decide ((k:Int) < (k:Int)) = false:=by simp
    have hall:hbs s.data.toList k ++ L0.drop k = hbs s.data.toList k:=by rw [List.drop_eq_nil_of_le (by rw [HL.out];exact Nat.le_refl _),List.append_nil]
    have mG:=hrow.out;rw [hall] at mG;have HT:Hid ((decide (s.size = 2 * k) && hok s.data.toList k) = true):=by show _ = _;rw [hok0.out,decide_eq_true hsz];rfl
    have HRR:=zh mG;clear mG hall hrow hsz;go_wp2_with fail;go_ret;exact ⟨_,by rw [HT.out];rfl,fO _ _,HRR.out,hgr.out,fun _=>rfl⟩
 ·have ht:((s.size:Int) != 2 * (n:Int)) = true:=by rw [bne_iff_ne];omega
  have hz:(decide (s.size = 2 * n) && hok s.data.toList n) = false:=by rw [decide_eq_false hsz];rfl
  rw [hz];clear hz hsz
  go_enter Tryz.func120,Tryz.ntmps120
  go_wp2
  go_ret;exact ⟨L0,rfl,HL.out,HR.out,World.grownBy.refl _ _,fun h=>by cases h⟩
def pok (l:List UInt8) (n:Nat):Bool:=decide (l.length = 2 * n) && hok l n
def pby (l:List UInt8) (n:Nat):List Int:=if pok l n = true then hbs l n else List.replicate n 0
theorem jG {P:Program} {fn:Func} {p u:Tmp} {ty:TypeId} (h:fn.results = #[.cell p ty,.tmp u]) (tmps:Array Value) (w:World) (g:Nat) (t:TypeId) (cs:Array Value) (fr:Nat × Nat) (d:TypeDesc)
 (hp:tmps.getD p undef = .pointer (some ⟨g,0,none⟩)) (hg:w.heap[g]? = some (.cells cs t fr))
 (hu:P.underlying ty = some d) (hd:(match d with | .struct _ | .array _ _=>true | _=>false) = true) (hi:(P.info? ty).map (·.size) = some cs.size) :
 (results fn tmps).run P w = .ok (.tuple #[.agg cs,tmps.getD u undef]) w:=by
 rw [results_cell_tmp h,hp];simp [asAddr,run_loadVar_row w g t ty cs fr d hg hu hd hi]
def XE (n:Nat):Array Value:=((List.replicate n (0:Int)).map (Value.int .u8)).toArray
theorem bzH (w:World):(Instr.build 42 #[]).run Tryz.prog w = .ok (.agg (XE 16)) w:=by kernel_rfl
theorem sB (L:List Int) (h:L.length = 16):(Tryz.prog.info? 42).map (·.size) = some (L.map (Value.int .u8)).toArray.size:=by rw [List.size_toArray,List.length_map,h];exact Tryz.info30h
theorem IQ (A L:List Int) (h:A.length = L.length):(A.map (Value.int .u8)).toArray.size = (L.map (Value.int .u8)).toArray.size:=by simp [h]
theorem mF (s:ByteArray) (w:World) :
 Calls Tryz.prog 86 #[.string s] w fun e w'=>e = .returned (.tuple #[.agg ((pby s.data.toList 16).map (Value.int .u8)).toArray,.bool (pok s.data.toList 16)]) ∧ Below w.heap.size w w':=by
 have HR:=zh (tQ w 42 .u8 (List.replicate 16 0));have HB:=zh (aA w (.cells ((List.replicate 16 0).map (Value.int .u8)).toArray 42));have HSZ:=zh (aD w (.cells ((List.replicate 16 0).map (Value.int .u8)).toArray 42));have hbz:=bzH
 go_enter Tryz.func86,Tryz.ntmps86
 go_wp2_with fail;generalize hw0:World.alloc w _ = w0;have hr0:RowIn w0 w.heap.size 42 .u8 (List.replicate 16 0):=by rw [← hw0];exact HR.out
 have hb0:Below w.heap.size w w0:=by rw [← hw0];exact HB.out
 have hs0:w0.heap.size = w.heap.size + 1:=by rw [← hw0];exact HSZ.out
 clear hw0 HR HB HSZ;have hr1:RowIn (w0.alloc (.cells (Array.replicate 16 (Value.int .u8 0)) 42)) w0.heap.size 42 .u8 (List.replicate 16 0):=tQ w0 42 .u8 (List.replicate 16 0);have hb1:=aA w0 (.cells (Array.replicate 16 (Value.int .u8 0)) 42);generalize hw1:World.alloc w0 _ = w1;have hr1':RowIn w1 (w.heap.size + 1) 42 .u8 (List.replicate 16 0):=by rw [← hw1,← hs0];exact hr1
 have hb1':Below w0.heap.size w0 w1:=by rw [← hw1];exact hb1
 clear hw1 hr1 hb1;have hr01:=hr0.below hb1' (by omega);have hbe1:=hb0.trans (hb1'.mono (by omega));refine (GP (w.heap.size + 1) 42 (List.replicate 16 0) 16 s w1 hr1' (by simp) (by omega)).mono ?_;rintro e w2 ⟨L,rfl,hL,hr2,hgr,hfin⟩;have HR2:=zh hr2;have HR0:=zh (hr01.grown hgr (by omega));have HBE:Hid (Below w.heap.size w w2):=hbe1.trans ((aU hgr (by have:=hr1'.lt;omega)).mono (by omega));have HP:Hid (pok s.data.toList 16 = (decide (s.size = 2 * 16) && hok s.data.toList 16)):=by show _ = _;unfold pok;rw [Lib.size_eq]
 have HPB:Hid (pby s.data.toList 16 = if pok s.data.toList 16 = true then hbs s.data.toList 16 else List.replicate 16 0):=rfl;clear hr2 hgr hr01 hbe1 hr0 hb0 hs0 hr1' hb1';generalize (decide (s.size = 2 * 16) && hok s.data.toList 16) = bv at *;have HLL:=zh hL;clear hL
 cases bv
 ·have HPB2:Hid (pby s.data.toList 16 = List.replicate 16 0):=by show _ = _;rw [HPB.out,if_neg (by rw [HP.out];simp)]
  clear hfin;have HI:Hid ((Tryz.prog.info? 42).map (·.size) = some (XE 16).size):=sB (List.replicate 16 0) (by simp);have HO:Hid ((XE 16).all (·.oneCell') = true):=aX .u8 _;have HS:Hid (((List.replicate 16 (0:Int)).map (Value.int .u8)).toArray.size = (XE 16).size):=rfl
  go_wp2_with (refine wpList_store_row rfl 42 _ _ rfl w.heap.size (XE 16) rfl rfl 42 _ HR0.out HI.out HS.out HO.out ?_)
  exact bodyPost_ret (jG (P:=Tryz.prog) rfl _ _ w.heap.size 42 (XE 16) (0,0) _ rfl (setRow_heap _ _ _ _ _ _ HR0.out) Tryz.underlying42 rfl HI.out) rfl ⟨by rw [HPB2.out,HP.out];rfl,below_setRow HBE.out (Nat.le_refl _) _⟩
 ·have HPB2:Hid (pby s.data.toList 16 = L):=by show _ = _;rw [HPB.out,if_pos HP.out,hfin rfl]
  clear hfin hbz;have HI:=zh (sB L HLL.out);have HO:=zh (aX .u8 L);have HS:=zh (IQ (List.replicate 16 0) L (by rw [HLL.out];simp))
  go_wp2_with (first
   | (refine wpList_load_row rfl 42 _ rfl (w.heap.size + 1) rfl 42 _ (0,0) _ HR2.out Tryz.underlying42 rfl HI.out ?_)
   | (refine wpList_store_row rfl 42 _ _ rfl w.heap.size _ rfl rfl 42 _ HR0.out HI.out HS.out HO.out ?_))
  exact bodyPost_ret (jG (P:=Tryz.prog) rfl _ _ w.heap.size 42 _ (0,0) _ rfl (HR0.out.setRow _) Tryz.underlying42 rfl HI.out) rfl ⟨by rw [HPB2.out,HP.out];rfl,below_setRow HBE.out (Nat.le_refl _) _⟩
theorem PK {l:List UInt8} {n:Nat} (h:∀ i,i < n → sM (l.getD (2 * i) 0) < 16 ∧ sM (l.getD (2 * i + 1) 0) < 16):Byt (hbs l n):=fun x hx=>by
 unfold hbs at hx;obtain ⟨i,hi,rfl⟩:=List.mem_map.1 hx;have:=h i (by simpa using hi);unfold hby;omega
theorem UU {l:List UInt8} {n:Nat} (h:hok l n = true) (i:Nat) (hi:i < n):sM (l.getD (2 * i) 0) < 16 ∧ sM (l.getD (2 * i + 1) 0) < 16:=by
 unfold hok at h;have:=(List.all_eq_true.1 h) i (by simpa using hi);unfold UV at this;simpa using this
end Go.Proofs.YtaeobegaodhpcaaGreatDoor
