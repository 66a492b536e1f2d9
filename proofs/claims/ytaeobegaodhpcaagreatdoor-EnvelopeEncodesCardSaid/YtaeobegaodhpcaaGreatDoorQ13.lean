/-
  Keys of many one-time keys: the walk of the reference's Shaped, way by way.
-/
import Derived.Test.YtaeobegaodhpcaaGreatDoorZip
import Derived.Test.YtaeobegaodhpcaaGreatDoorKeyIa
import Derived.Test.YtaeobegaodhpcaaGreatDoorQ12
import Derived.Lib.Bytealg
import Derived.Lib.BytesEntry
set_option maxRecDepth 100000
set_option maxHeartbeats 8000000
namespace Go.Proofs.YtaeobegaodhpcaaGreatDoor
open Go.RowKit Go.Proofs.YtaeobegaodhpcaaGreatDoor.One
theorem FQ (h:Nat) (r:List Int) (l:Int) (sp1:Option Addr) (n c1:Nat) (sp2:Option Addr) (m c2:Nat) (w:World) (hr:H16 r) (hh:h≤6) (hl:0≤l) (hl2:l<lvN h) (hn:n=68) (hm:m≠h) :
 Calls Tryz.prog 45 #[.agg (pkA (h:Int) r),.agg (siA l (.slice sp1 n c1) (.slice sp2 m c2))] w fun e w'=>e=.returned (.bool false)∧Below w.heap.size w w':=by
 have iJ:=zh hr;have HV:Hid (eI (h:Int)=true):=by show _=_;unfold eI;simp;omega
 have q1:decide (0≤l)=true:=by simp;omega
 have q2:decide (l<lvN h)=true:=by simp;omega
 have q3:((n:Int) == 68)=true:=by simp;omega
 have q4:((m:Int) == (h:Int))=false:=by simp;omega
 clear hl hl2 hn hm hr;have HT:=zh (PsBox.new w (h:Int) r l (.slice sp1 n c1) (.slice sp2 m c2));have HIP:=zh (dS (h:=(h:Int)) iJ.out)
 go_enter Tryz.func45,Tryz.ntmps45
 go_wp2_with (generalize hw0:World.alloc (World.alloc w _) _=w0;have HT0:Hid (PsBox w (h:Int) r l (.slice sp1 n c1) (.slice sp2 m c2) w0):=(by rw[←hw0];exact HT.out);clear hw0 HT;refine wpList_load_row rfl 44 _ rfl w.heap.size rfl 44 _ (0,0) _ HT0.out.k Tryz.underlying44 rfl HIP.out ?_)
 have hs0:w.heap.size+2≤w0.heap.size:=Nat.le_of_eq HT0.out.z.symm;refine (fY (h:Int) r w0).mono ?_;rintro e w2 ⟨rfl,hb⟩;rw[HV.out];have HB2:=zh hb;clear hb;have HK2:Hid (Ah w2 w.heap.size (pkA (h:Int) r) 44):=(HB2.out.block _ zo).trans HT0.out.k;have HS2:Hid (Ah w2 (w.heap.size+1) (siA l (.slice sp1 n c1) (.slice sp2 m c2)) 48):=(HB2.out.block _ zo).trans HT0.out.s;have k1:=AH HK2.out;have k2:=rI HS2.out;have k3:=sP HS2.out;have k4:=sK HS2.out;have hc:h=0∨h=1∨h=2∨h=3∨h=4∨h=5∨h=6:=by omega
 clear hh;rcases hc with rfl | rfl | rfl | rfl | rfl | rfl | rfl
 ·have e5:lvN 0=1:=rfl;have q5:decide (l<1)=true:=by rw[←e5];exact q2
  have q6:((m:Int) == 0)=false:=q4;clear e5 q2 q4;go_wp2_with fail;go_ret;exact⟨rfl,HT0.out.b.trans (HB2.out.mono zo)⟩
 ·have e5:lvN 1=2:=rfl;have q5:decide (l<2)=true:=by rw[←e5];exact q2
  have q6:((m:Int) == 1)=false:=q4;clear e5 q2 q4;go_wp2_with fail;go_ret;exact⟨rfl,HT0.out.b.trans (HB2.out.mono zo)⟩
 ·have e5:lvN 2=4:=rfl;have q5:decide (l<4)=true:=by rw[←e5];exact q2
  have q6:((m:Int) == 2)=false:=q4;clear e5 q2 q4;go_wp2_with fail;go_ret;exact⟨rfl,HT0.out.b.trans (HB2.out.mono zo)⟩
 ·have e5:lvN 3=8:=rfl;have q5:decide (l<8)=true:=by rw[←e5];exact q2
  have q6:((m:Int) == 3)=false:=q4;clear e5 q2 q4;go_wp2_with fail;go_ret;exact⟨rfl,HT0.out.b.trans (HB2.out.mono zo)⟩
 ·have e5:lvN 4=16:=rfl;have q5:decide (l<16)=true:=by rw[←e5];exact q2
  have q6:((m:Int) == 4)=false:=q4;clear e5 q2 q4;go_wp2_with fail;go_ret;exact⟨rfl,HT0.out.b.trans (HB2.out.mono zo)⟩
 ·have e5:lvN 5=32:=rfl;have q5:decide (l<32)=true:=by rw[←e5];exact q2
  have q6:((m:Int) == 5)=false:=q4;clear e5 q2 q4;go_wp2_with fail;go_ret;exact⟨rfl,HT0.out.b.trans (HB2.out.mono zo)⟩
 ·have e5:lvN 6=64:=rfl;have q5:decide (l<64)=true:=by rw[←e5];exact q2
  have q6:((m:Int) == 6)=false:=q4;clear e5 q2 q4;go_wp2_with fail;go_ret;exact⟨rfl,HT0.out.b.trans (HB2.out.mono zo)⟩
theorem FP (h:Nat) (r:List Int) (l:Int) (sp1:Option Addr) (n c1:Nat) (sp2:Option Addr) (m c2:Nat) (w:World) (hr:H16 r) (hh:h≤6) (hl:0≤l) (hl2:l<lvN h) (hn:n=68) (hm:m=h) :
 Calls Tryz.prog 45 #[.agg (pkA (h:Int) r),.agg (siA l (.slice sp1 n c1) (.slice sp2 m c2))] w fun e w'=>e=.returned (.bool true)∧Below w.heap.size w w':=by
 have iJ:=zh hr;have HV:Hid (eI (h:Int)=true):=by show _=_;unfold eI;simp;omega
 have q1:decide (0≤l)=true:=by simp;omega
 have q2:decide (l<lvN h)=true:=by simp;omega
 have q3:((n:Int) == 68)=true:=by simp;omega
 have q4:((m:Int) == (h:Int))=true:=by simp;omega
 clear hl hl2 hn hm hr;have HT:=zh (PsBox.new w (h:Int) r l (.slice sp1 n c1) (.slice sp2 m c2));have HIP:=zh (dS (h:=(h:Int)) iJ.out)
 go_enter Tryz.func45,Tryz.ntmps45
 go_wp2_with (generalize hw0:World.alloc (World.alloc w _) _=w0;have HT0:Hid (PsBox w (h:Int) r l (.slice sp1 n c1) (.slice sp2 m c2) w0):=(by rw[←hw0];exact HT.out);clear hw0 HT;refine wpList_load_row rfl 44 _ rfl w.heap.size rfl 44 _ (0,0) _ HT0.out.k Tryz.underlying44 rfl HIP.out ?_)
 have hs0:w.heap.size+2≤w0.heap.size:=Nat.le_of_eq HT0.out.z.symm;refine (fY (h:Int) r w0).mono ?_;rintro e w2 ⟨rfl,hb⟩;rw[HV.out];have HB2:=zh hb;clear hb;have HK2:Hid (Ah w2 w.heap.size (pkA (h:Int) r) 44):=(HB2.out.block _ zo).trans HT0.out.k;have HS2:Hid (Ah w2 (w.heap.size+1) (siA l (.slice sp1 n c1) (.slice sp2 m c2)) 48):=(HB2.out.block _ zo).trans HT0.out.s;have k1:=AH HK2.out;have k2:=rI HS2.out;have k3:=sP HS2.out;have k4:=sK HS2.out;have hc:h=0∨h=1∨h=2∨h=3∨h=4∨h=5∨h=6:=by omega
 clear hh;rcases hc with rfl | rfl | rfl | rfl | rfl | rfl | rfl
 ·have e5:lvN 0=1:=rfl;have q5:decide (l<1)=true:=by rw[←e5];exact q2
  have q6:((m:Int) == 0)=true:=q4;clear e5 q2 q4;go_wp2_with fail;go_ret;exact⟨rfl,HT0.out.b.trans (HB2.out.mono zo)⟩
 ·have e5:lvN 1=2:=rfl;have q5:decide (l<2)=true:=by rw[←e5];exact q2
  have q6:((m:Int) == 1)=true:=q4;clear e5 q2 q4;go_wp2_with fail;go_ret;exact⟨rfl,HT0.out.b.trans (HB2.out.mono zo)⟩
 ·have e5:lvN 2=4:=rfl;have q5:decide (l<4)=true:=by rw[←e5];exact q2
  have q6:((m:Int) == 2)=true:=q4;clear e5 q2 q4;go_wp2_with fail;go_ret;exact⟨rfl,HT0.out.b.trans (HB2.out.mono zo)⟩
 ·have e5:lvN 3=8:=rfl;have q5:decide (l<8)=true:=by rw[←e5];exact q2
  have q6:((m:Int) == 3)=true:=q4;clear e5 q2 q4;go_wp2_with fail;go_ret;exact⟨rfl,HT0.out.b.trans (HB2.out.mono zo)⟩
 ·have e5:lvN 4=16:=rfl;have q5:decide (l<16)=true:=by rw[←e5];exact q2
  have q6:((m:Int) == 4)=true:=q4;clear e5 q2 q4;go_wp2_with fail;go_ret;exact⟨rfl,HT0.out.b.trans (HB2.out.mono zo)⟩
 ·have e5:lvN 5=32:=rfl;have q5:decide (l<32)=true:=by rw[←e5];exact q2
  have q6:((m:Int) == 5)=true:=q4;clear e5 q2 q4;go_wp2_with fail;go_ret;exact⟨rfl,HT0.out.b.trans (HB2.out.mono zo)⟩
 ·have e5:lvN 6=64:=rfl;have q5:decide (l<64)=true:=by rw[←e5];exact q2
  have q6:((m:Int) == 6)=true:=q4;clear e5 q2 q4;go_wp2_with fail;go_ret;exact⟨rfl,HT0.out.b.trans (HB2.out.mono zo)⟩
theorem xV (h l:Int) (n m:Nat):(eI h=false∧mA h l n m=false)∨∃ k:Nat,h=(k:Int)∧k≤6∧((l<0∧mA h l n m=false)∨(0≤l∧lvN k≤l∧mA h l n m=false)∨(0≤l∧l<lvN k∧n≠68∧mA h l n m=false)∨(0≤l∧l<lvN k∧n=68∧m≠k∧mA h l n m=false)∨(0≤l∧l<lvN k∧n=68∧m=k∧mA h l n m=true)):=by
 by_cases hv:0≤h∧h≤6
 ·obtain⟨k,rfl⟩:∃ k:Nat,h=(k:Int):=⟨h.toNat,by omega⟩;refine .inr ⟨k,rfl,by omega,?_⟩;have e:((k:Int)).toNat=k:=by omega
  by_cases h1:0≤l
  ·by_cases h2:l<lvN k
   ·by_cases h3:n=68
    ·by_cases h4:m=k
     ·refine .inr (.inr (.inr (.inr ⟨h1,h2,h3,h4,?_⟩)));unfold mA;rw[e,decide_eq_true];exact⟨hv,h1,h2,h3,by omega⟩
     ·refine .inr (.inr (.inr (.inl ⟨h1,h2,h3,h4,?_⟩)));unfold mA;rw[e,decide_eq_false];rintro⟨_,_,_,_,h⟩;omega
    ·refine .inr (.inr (.inl ⟨h1,h2,h3,?_⟩));unfold mA;rw[e,decide_eq_false];rintro⟨_,_,_,h,_⟩;omega
   ·refine .inr (.inl ⟨h1,by omega,?_⟩);unfold mA;rw[e,decide_eq_false];rintro⟨_,_,h,_⟩;omega
  ·refine .inl ⟨by omega,?_⟩;unfold mA;rw[decide_eq_false];rintro⟨_,h,_⟩;omega
 ·refine .inl ⟨by unfold eI;rw[decide_eq_false hv],?_⟩;unfold mA;rw[decide_eq_false];rintro⟨h,_⟩;exact hv h
theorem oI (h:Int) (r:List Int) (l:Int) (sp1:Option Addr) (n c1:Nat) (sp2:Option Addr) (m c2:Nat) (w:World) (hr:H16 r) :
 Calls Tryz.prog 67 #[.agg (pkA h r),.agg (siA l (.slice sp1 n c1) (.slice sp2 m c2))] w fun e w'=>e=.returned (.bool (mA h l n m))∧Below w.heap.size w w':=by
 rcases xV h l n m with ⟨hv,e⟩ | ⟨k,rfl,hk,⟨h1,e⟩ | ⟨h1,h2,e⟩ | ⟨h1,h2,h3,e⟩ | ⟨h1,h2,h3,h4,e⟩ | ⟨h1,h2,h3,h4,e⟩⟩ <;> rw[e]
 ·exact JY h r l sp1 n c1 sp2 m c2 w hr hv
 ·exact JX k r l sp1 n c1 sp2 m c2 w hr hk h1
 ·exact JW k r l sp1 n c1 sp2 m c2 w hr hk h1 h2
 ·exact JV k r l sp1 n c1 sp2 m c2 w hr hk h1 h2 h3
 ·exact JU k r l sp1 n c1 sp2 m c2 w hr hk h1 h2 h3 h4
 ·exact JT k r l sp1 n c1 sp2 m c2 w hr hk h1 h2 h3 h4
theorem AZ (h:Int) (r:List Int) (l:Int) (sp1:Option Addr) (n c1:Nat) (sp2:Option Addr) (m c2:Nat) (w:World) (hr:H16 r) :
 Calls Tryz.prog 45 #[.agg (pkA h r),.agg (siA l (.slice sp1 n c1) (.slice sp2 m c2))] w fun e w'=>e=.returned (.bool (mA h l n m))∧Below w.heap.size w w':=by
 rcases xV h l n m with ⟨hv,e⟩ | ⟨k,rfl,hk,⟨h1,e⟩ | ⟨h1,h2,e⟩ | ⟨h1,h2,h3,e⟩ | ⟨h1,h2,h3,h4,e⟩ | ⟨h1,h2,h3,h4,e⟩⟩ <;> rw[e]
 ·exact FU h r l sp1 n c1 sp2 m c2 w hr hv
 ·exact FT k r l sp1 n c1 sp2 m c2 w hr hk h1
 ·exact FS k r l sp1 n c1 sp2 m c2 w hr hk h1 h2
 ·exact FR k r l sp1 n c1 sp2 m c2 w hr hk h1 h2 h3
 ·exact FQ k r l sp1 n c1 sp2 m c2 w hr hk h1 h2 h3 h4
 ·exact FP k r l sp1 n c1 sp2 m c2 w hr hk h1 h2 h3 h4
theorem cD {P:Program} {ops:Array Oper} {rest:List Oper} {o:Oper} {a:Act} {w:World} {Q:Exit→Act→World→Prop} (hw:Region.wanted o (yielded ops a.tmps)=true) (ty:TypeId) (x:Operand) (ho:o.op=.load ty x)
 (b k:Nat) (hx:a.eval x=.pointer (some ⟨b,k,none⟩)) (cs:List Value) (d:TypeDesc) (hc:w.rangeAt b k cs)
 (hu:P.underlying ty=some d) (hd:d.isRow=true) (hi:(P.info? ty).map (·.size)=some cs.length)
 (h:wpList P ops Q rest (a.put o.dst (.agg cs.toArray)) w):wpList P ops Q (o :: rest) a w :=
 wpList_step fun K hK=>by rw[if_pos hw];exact wp_load_mid ty x ho b k hx cs d hc hu hd hi (hK _ _ h)
structure VfBox (w:World) (h:Int) (r d:List Int) (l:Int) (c p:Value) (w0:World):Prop where
 k:w0.heap[w.heap.size]? = some (.cells (pkA h r) 44 (0,0))
 d:w0.heap[w.heap.size+1]? = some (.cells (dgA d) 77 (0,0))
 s:w0.heap[w.heap.size+1+1]? = some (.cells (siA l c p) 48 (0,0))
 b:Below w.heap.size w w0
 z:w0.heap.size=w.heap.size+3
theorem VfBox.new (w:World) (h:Int) (r d:List Int) (l:Int) (c p:Value):VfBox w h r d l c p (((w.alloc (.cells (pkA h r) 44)).alloc (.cells (dgA d) 77)).alloc (.cells (siA l c p) 48)):=by
 have h1:=heap_alloc_new w (.cells (pkA h r) 44);have b1:=aA w (.cells (pkA h r) 44);have s1:=aF w (.cells (pkA h r) 44);generalize w.alloc (.cells (pkA h r) 44)=w1 at *;have h2:=heap_alloc_new w1 (.cells (dgA d) 77);have b2:=aA w1 (.cells (dgA d) 77);have s2:=aF w1 (.cells (dgA d) 77);generalize w1.alloc (.cells (dgA d) 77)=w2 at *;have h3:=heap_alloc_new w2 (.cells (siA l c p) 48);have b3:=aA w2 (.cells (siA l c p) 48);have s3:=aF w2 (.cells (siA l c p) 48);generalize w2.alloc (.cells (siA l c p) 48)=w3 at *;have b23:=b2.trans (b3.mono zo);refine⟨(b23.block _ zo).trans h1,?_,?_,b1.trans (b23.mono zo),by omega⟩
 ·rw[←s1];exact (b3.block _ zo).trans h2
 ·rw[←s1,←s2];exact h3
def SG (h:Int) (r d:List Int) (l:Int) (n m:Nat) (cl pl:List (List Int)):Bool:=mA h l n m && decide (tE pl (PO l d cl) l.toNat h.toNat=r)
theorem eqHM (X Y:List Int) (hX:X.length=16) (hY:Y.length=16) (w:World):(Op.equalIn 10000 42 (.agg (X.map (Value.int .u8)).toArray) (.agg (Y.map (Value.int .u8)).toArray)).run Tryz.prog w=.ok (decide (X=Y)) w:=by
 have h:=eqHE X Y hX hY w;unfold hvA at h;exact h
theorem JA (h:Int) (r d:List Int) (l:Int) (sp1:Option Addr) (n c1:Nat) (sp2:Option Addr) (m c2:Nat) (w:World) (hr:H16 r) (hshp:mA h l n m=false) :
 Calls Tryz.prog 103 #[.agg (pkA h r),.agg (dgA d),.agg (siA l (.slice sp1 n c1) (.slice sp2 m c2))] w fun e w'=>e=.returned (.bool false)∧Below w.heap.size w w':=by
 have iJ:=zh hr;have HSHP:=zh hshp;clear hr hshp;have HT:=zh (VfBox.new w h r d l (.slice sp1 n c1) (.slice sp2 m c2))
 go_enter Tryz.func103,Tryz.ntmps103
 go_upto_region 1 with (fail)
 generalize hw0:World.alloc (World.alloc (World.alloc w _) _) _=w0;have HT0:Hid (VfBox w h r d l (.slice sp1 n c1) (.slice sp2 m c2) w0):=by rw[←hw0];exact HT.out
 clear hw0 HT;have hs0:w.heap.size+3≤w0.heap.size:=Nat.le_of_eq HT0.out.z.symm;have k2:=rI HT0.out.s;have k3:=sP HT0.out.s;have k4:=sK HT0.out.s
 go_wp2_with (refine wpList_load_row rfl 44 _ rfl w.heap.size rfl 44 _ (0,0) _ HT0.out.k Tryz.underlying44 rfl (dS iJ.out) ?_)
 clear k2 k3 k4;refine (oI h r l sp1 n c1 sp2 m c2 w0 iJ.out).mono ?_;rintro e w1 ⟨rfl,hb1⟩;rw[HSHP.out];have HB1:=zh hb1;clear hb1;go_wp2_with fail;go_ret;exact⟨rfl,HT0.out.b.trans (HB1.out.mono zo)⟩
theorem FG (h:Nat) (r d:List Int) (leaf:Nat) (sp1:Option Addr) (c1:Nat) (sp2:Option Addr) (c2:Nat) (cl pl:List (List Int)) (w:World) (hr:H16 r) (hd:D32 d) (hh:h≤6) (hl:leaf<2 ^ h) (hc:HvsIn w w.heap.size sp1 68 c1 cl) (hp:HvsIn w w.heap.size sp2 h c2 pl) (hk:KayIn w) (hk0:4<w.heap.size) :
 Calls Tryz.prog 103 #[.agg (pkA (h:Int) r),.agg (dgA d),.agg (siA (leaf:Int) (.slice sp1 68 c1) (.slice sp2 h c2))] w fun e w'=>e=.returned (.bool (decide (tE pl (PO leaf d cl) leaf h=r)))∧Below w.heap.size w w':=by
 have iJ:=zh hr;have HD:=zh hd;have HC:=zh hc;have HP:=zh hp;have HK:=zh hk;have HSHP:Hid (mA (h:Int) (leaf:Int) 68 h=true):=by
  show _=_;unfold mA;rw[decide_eq_true];refine⟨by omega,by omega,?_,rfl,rfl⟩;unfold lvN;rw[Int.toNat_natCast];omega
 have h64:leaf≤64:=by have:2 ^ h≤2 ^ 6:=Nat.pow_le_pow_right zo hh;omega
 have HIR:=zh (bS hr);have aAw:=zh (mY (leaf:Int) d cl);have HEQ:=zh (fun w'=>eqHM (tE pl (PO leaf d cl) leaf h) r (uR (mY _ _ _) leaf h).1 hr.1 w');clear hr hd hc hp hk hl;have HT:=zh (VfBox.new w h r d leaf (.slice sp1 68 c1) (.slice sp2 h c2))
 go_enter Tryz.func103,Tryz.ntmps103
 go_upto_region 1 with (fail)
 generalize hw0:World.alloc (World.alloc (World.alloc w _) _) _=w0;have HT0:Hid (VfBox w (h:Int) r d (leaf:Int) (.slice sp1 68 c1) (.slice sp2 h c2) w0):=by rw[←hw0];exact HT.out
 clear hw0 HT;have hs0:w.heap.size+3≤w0.heap.size:=Nat.le_of_eq HT0.out.z.symm;have k2:=rI HT0.out.s;have k3:=sP HT0.out.s;have k4:=sK HT0.out.s
 go_wp2_with (refine wpList_load_row rfl 44 _ rfl w.heap.size rfl 44 _ (0,0) _ HT0.out.k Tryz.underlying44 rfl (dS iJ.out) ?_)
 clear k2 k3 k4;refine (oI (h:Int) r (leaf:Int) sp1 68 c1 sp2 h c2 w0 iJ.out).mono ?_;rintro e w1 ⟨rfl,hb1⟩;rw[HSHP.out];have HB1:=zh hb1;clear hb1;have HSs1:Hid (Ah w1 (w.heap.size+1+1) (siA leaf (.slice sp1 68 c1) (.slice sp2 h c2)) 48):=(HB1.out.block _ zo).trans HT0.out.s;have HSd1:Hid (Ah w1 (w.heap.size+1) (dgA d) 77):=(HB1.out.block _ zo).trans HT0.out.d;have HSk1:Hid (Ah w1 w.heap.size (pkA h r) 44):=(HB1.out.block _ zo).trans HT0.out.k;have uO:Hid (Bw w w1):=HT0.out.b.trans (HB1.out.mono zo);have hs1:=HB1.out.size;clear HT0 HB1;have k2:=rI HSs1.out;have k3:=sP HSs1.out
 go_wp2_with (refine wpList_load_row rfl 77 _ rfl (w.heap.size+1) rfl 77 _ (0,0) _ HSd1.out Tryz.underlying77 rfl (vK HD.out) ?_)
 clear k2 k3;have HK1:=zh (HK.out.below uO.out hk0);refine (BE leaf d sp1 c1 cl w1 HD.out ((HC.out.below uO.out zl).more zo) HK1.out zo).mono ?_;rintro e w2 ⟨rfl,hb2⟩;have HSs2:Hid (Ah w2 (w.heap.size+1+1) (siA leaf (.slice sp1 68 c1) (.slice sp2 h c2)) 48):=(hb2.block _ zo).trans HSs1.out;have HSk2:Hid (Ah w2 w.heap.size (pkA h r) 44):=(hb2.block _ zo).trans HSk1.out;have uN:Hid (Bw w w2):=uO.out.trans (hb2.mono zo);have hs2:w.heap.size+3≤w2.heap.size:=by have:=hb2.size;omega
 clear hb2;generalize hsr:PO (leaf:Int) d cl=s at aAw;have HSR:=zh hsr;clear hsr;have HZN:=zh (Zro.new w2);have HRB:=zh (RowB.new w2 42 s)
 go_wp2_with (first
  | (refine wpList_store_row rfl 42 _ _ rfl w2.heap.size _ rfl rfl 42 _ HZN.out.z (aI aAw.out) (cE aAw.out) (cM _) ?_;rw[aK];generalize hw3:World.alloc w2 _=w3;have HR3:Hid (RowB w2 42 s w3):=(by rw[←hw3];exact HRB.out);clear hw3 HZN HRB;have HSs3:Hid (Ah w3 (w.heap.size+1+1) (siA leaf (.slice sp1 68 c1) (.slice sp2 h c2)) 48):=((HR3.out.b.block _ zo).trans HSs2.out);have k2:=rI HSs3.out;have k4:=sK HSs3.out))
 clear k2 k4;have HSk3:Hid (Ah w3 w.heap.size (pkA h r) 44):=(HR3.out.b.block _ zo).trans HSk2.out;have YD:Hid (Bw w w3):=uN.out.trans (HR3.out.b.mono zo);have HP3:=zh (HP.out.below YD.out zl);have HK3:=zh (HK.out.below YD.out hk0);have HN3:=zh (HR3.out.r);have hs3:w2.heap.size<w3.heap.size:=by have:=HR3.out.s;omega
 clear HR3 HSs2 HSk2 uN HSs3 HSs1 HSk1 HSd1 uO HK1;generalize w2.heap.size=gn at *
 go_loopw [9,32] (fun u v wr=>∃ k:Nat,k≤h∧u=.int .i64 ((leaf / 2 ^ k:Nat):Int)∧v=.int .i64 (k:Int)∧Hid (wr.heap[gn]? = some (.cells (hvA (tE pl s leaf k)) 42 (0,0)))∧Hid (Below gn w3 wr)∧gn+1≤wr.heap.size) (fun _ v _=>h-(intOf v).toNat)
 case atStart=>exact⟨0,by omega,by simp,rfl,HN3.out,Below.refl _ _,hs3⟩
 case round =>
  clear HN3;obtain⟨k,hkh,rfl,rfl,HNR,HBR,hsr⟩:=hrel;by_cases hlt:k<h
  ·have hd1:decide ((k:Int)<(h:Int))=true:=by simp;omega
   have p1:(0:Int)≤(k:Int):=by omega
   have p2:(k:Int)<(h:Int):=by omega
   have HWS:=zh (xI pl s leaf k);have HJS:Hid (leaf / 2 ^ (k+1)=leaf / 2 ^ k / 2):=rV leaf k;have eR:=zh (uR (p:=pl) aAw.out leaf k);obtain⟨sb,so,rfl,hsb,hcc,hrr⟩:=HP3.out.cells zo;have HYR:Hid (wr.rangeAt sb (so+k*16) ((pl.getD k []).map (Value.int .u8))):=aB (hrr k hlt) HBR.out zo;have cQ:=zh (HP3.out.at16 hlt);have p3:(h:Int)≤(c2:Int):=by omega
   have hile:leaf / 2 ^ k≤64:=Nat.le_trans (Nat.div_le_self _ _) h64;clear hrr;generalize tE pl s leaf k=x at *;generalize pl.getD k []=y at *;generalize leaf / 2 ^ k=i at *;obtain⟨j,hj⟩:∃ j:Nat,i / 2=j:=⟨_,rfl⟩;rw[hj] at HWS HJS;have hq:(i:Int) / 2=(j:Int):=by omega
   clear hj;have HIX:=zh (bS eR.out);have HIY:=zh (bS cQ.out);have HZN:=zh (Zro.new wr);have HRB:=zh (RowB.new wr 42 y)
   go_upto_region 8 with (first
    | (refine wpList_load_mid rfl 42 _ rfl sb (so+k*16) rfl _ _ HYR.out Tryz.underlying42 rfl HIY.out ?_)
    | (refine wpList_store_row rfl 42 _ _ rfl wr.heap.size _ rfl rfl 42 _ HZN.out.z (aI cQ.out) (cE cQ.out) (cM _) ?_;rw[aK];generalize hwn:World.alloc wr _=wn;have HRn:Hid (RowB wr 42 y wn):=(by rw[←hwn];exact HRB.out);clear hwn HZN HRB))
   have HNn:Hid (Ah wn gn (hvA x) 42):=(HRn.out.b.block _ zo).trans HNR.out;have HYn:=zh (HRn.out.r);have HBN:Hid (Below gn w3 wn):=HBR.out.trans (HRn.out.b.mono zo);have hsn:wr.heap.size+1≤wn.heap.size:=Nat.le_of_eq HRn.out.s.symm;clear HRn;refine wp_region_held_drew (S:=fun w'=>w'.heap[gn]? = some (.cells (hvA x) 42 (0,0))∧w'.heap[wr.heap.size]? = some (.cells (hvA y) 42 (0,0))) (by kernel_rfl) ⟨HNn.out,HYn.out⟩ (fun hHeld=>?_);refine' zk 0 rfl (v:=_) (yieldsIf_load_mid (by rfl) _ _ rfl _ _ rfl _ _ ?hS0n1 Tryz.underlying42 rfl HIX.out) ?rest0n1
   case hS0n1 =>
    intro w' hSw;exact bC hSw.1
   try simp only[Act.put,zu]
   refine' zk 1 rfl (v:=_) (yieldsIf_load_mid (by rfl) _ _ rfl _ _ rfl _ _ ?hS1n2 Tryz.underlying42 rfl HIY.out) ?rest1n2
   case hS1n2 =>
    intro w' hSw;exact bC hSw.2
   try simp only[Act.put,zu]
   refine zs 2 3 rfl (fun K hK=>?_) rfl (fun K hK=>?_)
   ·have HO:=zh (Zro.new wn);go_simp;generalize hw:World.drew (World.alloc wn _)=wp;have NO:Hid (Zro wn wp):=by rw[←hw];exact⟨HO.out.z,HO.out.b.drew,HO.out.s⟩
    clear hw HO;have hzwp:wn.heap.size+1≤wp.heap.size:=Nat.le_of_eq NO.out.s.symm;have HN1:Hid (Ah wp gn (hvA x) 42):=(NO.out.b.block _ zo).trans HNn.out;have HY1:Hid (Ah wp wr.heap.size (hvA y) 42):=(NO.out.b.block _ zo).trans HYn.out;refine hK.out _ _ ⟨HN1.out,HY1.out⟩ fun _=>?_;clear hK K
    try simp only[Act.put,zu]
    refine zr 3 rfl (fun K hK=>?_);have HO:=zh (Zro.new wp);go_simp;generalize hw:World.alloc wp _=wq;have ID:Hid (Zro wp wq):=by rw[←hw];exact HO.out
    clear hw HO;have hzwq:wp.heap.size+1≤wq.heap.size:=Nat.le_of_eq ID.out.s.symm;have HN2:Hid (Ah wq gn (hvA x) 42):=(ID.out.b.block _ zo).trans HN1.out;have HY2:Hid (Ah wq wr.heap.size (hvA y) 42):=(ID.out.b.block _ zo).trans HY1.out;refine hK.out _ _ ⟨HN2.out,HY2.out⟩ fun _=>?_;clear hK K
    try simp only[Act.put,zu]
    have HBq:Hid (Below gn w3 wq):=HBN.out.trans ((NO.out.b.mono zo).trans (ID.out.b.mono zo));have HZ1q:Hid (Ah wq wn.heap.size (Array.replicate 16 (Value.int .u8 0)) 42):=(ID.out.b.block _ zo).trans NO.out.z;have HZ2q:=zh (ID.out.z);refine zr 4 rfl (fun K hK=>?_);rw[if_pos (by rfl)];refine wp_store_row 42 _ _ rfl (wn.heap.size) (hvA x) rfl rfl 42 _ HZ1q.out (aI eR.out) (cE eR.out) (cM _) ?_;generalize hw:World.setRow wq _ _=w7;have H12s:Hid (Ah w7 wn.heap.size (hvA x) 42):=by rw[←hw];exact setRow_heap _ _ _ _ _ _ HZ1q.out
    have aCa:Hid (Ah w7 wp.heap.size (Array.replicate 16 (Value.int .u8 0)) 42):=by rw[←hw];exact (setRow_other _ _ _ _ zo).trans HZ2q.out
    have HN7:Hid (Ah w7 gn (hvA x) 42):=by rw[←hw];exact (setRow_other _ _ _ _ zo).trans HN2.out
    have HY7:Hid (Ah w7 wr.heap.size (hvA y) 42):=by rw[←hw];exact (setRow_other _ _ _ _ zo).trans HY2.out
    have HB7:Hid (Below gn w3 w7):=by rw[←hw];exact below_setRow HBq.out zo _
    have hs7:wq.heap.size≤w7.heap.size:=by rw[←hw];simp[World.setRow]
    clear hw
    skip
    refine hK.out _ _ ⟨HN7.out,HY7.out⟩ fun _=>?_;clear hK K
    try simp only[Act.put,zu]
    refine zr 5 rfl (fun K hK=>?_);rw[if_pos (by rfl)];refine wp_store_row 42 _ _ rfl (wp.heap.size) (hvA y) rfl rfl 42 _ aCa.out (aI cQ.out) (cE cQ.out) (cM _) ?_;generalize hw:World.setRow w7 _ _=w8;have H12:Hid (Ah w8 wn.heap.size (hvA x) 42):=by rw[←hw];exact (setRow_other _ _ _ _ zo).trans H12s.out
    have H13:Hid (Ah w8 wp.heap.size (hvA y) 42):=by rw[←hw];exact setRow_heap _ _ _ _ _ _ aCa.out
    have HN8:Hid (Ah w8 gn (hvA x) 42):=by rw[←hw];exact (setRow_other _ _ _ _ zo).trans HN7.out
    have HY8:Hid (Ah w8 wr.heap.size (hvA y) 42):=by rw[←hw];exact (setRow_other _ _ _ _ zo).trans HY7.out
    have HB8:Hid (Below gn w3 w8):=by rw[←hw];exact below_setRow HB7.out zo _
    have hs8:wq.heap.size≤w8.heap.size:=by rw[←hw];simp[World.setRow];omega
    clear hw
    skip
    refine hK.out _ _ ⟨HN8.out,HY8.out⟩ fun _=>?_;clear hK K
    try simp only[Act.put,zu]
    refine zd ?_ _;by_cases hodd:i % 2=1
    ·have hp1:((i:Int) % 2 == 1)=true:=by simp;omega
     have HA16:=zh cQ.out;have HB16:=zh eR.out
     go_wp2_with (first
      | (refine wpList_load_row rfl 42 _ rfl (wp.heap.size) rfl 42 _ (0,0) _ H13.out Tryz.underlying42 rfl (aI cQ.out) ?_)
      | (refine wpList_load_row rfl 42 _ rfl (wn.heap.size) rfl 42 _ (0,0) _ H12.out Tryz.underlying42 rfl (aI eR.out) ?_)
      | (refine wpList_store_row rfl 42 _ _ rfl (wn.heap.size) _ rfl rfl 42 _ H12.out (aI cQ.out) (by simp[hvA,eR.out.1,cQ.out.1]) (cM _) ?_;generalize hw9:World.setRow w8 _ _=w9;have H12a:Hid (w9.heap[wn.heap.size]? = some (.cells (hvA y) 42 (0,0))):=(by rw[←hw9];exact setRow_heap _ _ _ _ _ _ H12.out);have aCb:Hid (w9.heap[wp.heap.size]? = some (.cells (hvA y) 42 (0,0))):=(by rw[←hw9];exact (setRow_other _ _ _ _ zo).trans H13.out);have HN9:Hid (w9.heap[gn]? = some (.cells (hvA x) 42 (0,0))):=(by rw[←hw9];exact (setRow_other _ _ _ _ zo).trans HN8.out);have HB9:Hid (Below gn w3 w9):=(by rw[←hw9];exact below_setRow HB8.out zo _);have hs9:gn+3≤w9.heap.size:=(by rw[←hw9];simp[World.setRow];omega);clear hw9)
      | (refine wpList_store_row rfl 42 _ _ rfl (wp.heap.size) _ rfl rfl 42 _ aCb.out (aI eR.out) (by simp[hvA,eR.out.1,cQ.out.1]) (cM _) ?_;generalize hwa:World.setRow w9 _ _=wa;have H13b:Hid (wa.heap[wp.heap.size]? = some (.cells (hvA x) 42 (0,0))):=(by rw[←hwa];exact setRow_heap _ _ _ _ _ _ aCb.out);have H12b:Hid (wa.heap[wn.heap.size]? = some (.cells (hvA y) 42 (0,0))):=(by rw[←hwa];exact (setRow_other _ _ _ _ zo).trans H12a.out);have HNb:Hid (wa.heap[gn]? = some (.cells (hvA x) 42 (0,0))):=(by rw[←hwa];exact (setRow_other _ _ _ _ zo).trans HN9.out);have HBb:Hid (Below gn w3 wa):=(by rw[←hwa];exact below_setRow HB9.out zo _);have hsb:gn+3≤wa.heap.size:=(by rw[←hwa];simp[World.setRow];omega);clear hwa)
      | (refine wpList_load_row rfl 42 _ rfl (wn.heap.size) rfl 42 _ (0,0) _ H12b.out Tryz.underlying42 rfl (aI cQ.out) ?_)
      | (refine wpList_load_row rfl 42 _ rfl (wp.heap.size) rfl 42 _ (0,0) _ H13b.out Tryz.underlying42 rfl (aI eR.out) ?_))
     have HKb:Hid (KayIn wa):=HK3.out.below HBb.out zo;refine (nG k j y x wa cQ.out eR.out HKb.out zo).mono ?_;rintro e wc ⟨rfl,hbc⟩;have HBc:=zh hbc;have HNc:Hid (Ah wc gn (hvA x) 42):=(hbc.block _ zo).trans HNb.out;have YC:Hid (Below gn w3 wc):=HBb.out.trans (hbc.mono zo);have hsc:=hbc.size;clear hbc;have HJ:Hid (tE pl s leaf (k+1)=eX k j y x):=by show _=_;rw[HWS.out,if_pos zo]
     go_wp2_with (refine wpList_store_row rfl 42 _ _ rfl gn _ rfl rfl 42 _ HNc.out (aI (bK _ _ _ _)) (by simp[hvA,eR.out.1,(bK (k:Int) (j:Int) y x).1]) (cM _) ?_;generalize hwd:World.setRow wc _ _=wd;have HNd:Hid (wd.heap[gn]? = some (.cells (hvA (eX k j y x)) 42 (0,0))):=(by rw[←hwd];exact setRow_heap _ _ _ _ _ _ HNc.out);have HBd:Hid (Below gn w3 wd):=(by rw[←hwd];exact below_setRow YC.out zl _);have hsd:gn+1≤wd.heap.size:=(by rw[←hwd];simp[World.setRow];omega);clear hwd)
     go_roundw
     case rel=>exact⟨k+1,by omega,by rw[HJS.out],by go_num,by rw[HJ.out];exact HNd.out,HBd.out,hsd⟩
     case measure=>simp[intOf];omega
    ·have hp1:((i:Int) % 2 == 1)=false:=by simp;omega
     go_wp2_with (first
      | (refine wpList_load_row rfl 42 _ rfl (wn.heap.size) rfl 42 _ (0,0) _ H12.out Tryz.underlying42 rfl (aI eR.out) ?_)
      | (refine wpList_load_row rfl 42 _ rfl (wp.heap.size) rfl 42 _ (0,0) _ H13.out Tryz.underlying42 rfl (aI cQ.out) ?_))
     have HKb:Hid (KayIn w8):=HK3.out.below HB8.out zo;refine (nG k j x y w8 eR.out cQ.out HKb.out zo).mono ?_;rintro e wc ⟨rfl,hbc⟩;have HBc:=zh hbc;have HNc:Hid (Ah wc gn (hvA x) 42):=(hbc.block _ zo).trans HN8.out;have YC:Hid (Below gn w3 wc):=HB8.out.trans (hbc.mono zo);have hsc:=hbc.size;clear hbc;have HJ:Hid (tE pl s leaf (k+1)=eX k j x y):=by show _=_;rw[HWS.out,if_neg zo]
     go_wp2_with (refine wpList_store_row rfl 42 _ _ rfl gn _ rfl rfl 42 _ HNc.out (aI (bK _ _ _ _)) (by simp[hvA,eR.out.1,(bK (k:Int) (j:Int) x y).1]) (cM _) ?_;generalize hwd:World.setRow wc _ _=wd;have HNd:Hid (wd.heap[gn]? = some (.cells (hvA (eX k j x y)) 42 (0,0))):=(by rw[←hwd];exact setRow_heap _ _ _ _ _ _ HNc.out);have HBd:Hid (Below gn w3 wd):=(by rw[←hwd];exact below_setRow YC.out zl _);have hsd:gn+1≤wd.heap.size:=(by rw[←hwd];simp[World.setRow];omega);clear hwd)
     go_roundw
     case rel=>exact⟨k+1,by omega,by rw[HJS.out],by go_num,by rw[HJ.out];exact HNd.out,HBd.out,hsd⟩
     case measure=>simp[intOf];omega
   ·have HO:=zh (Zro.new wn);go_simp;generalize hw:World.drew (World.alloc wn _)=wp;have NO:Hid (Zro wn wp):=by rw[←hw];exact⟨HO.out.z,HO.out.b.drew,HO.out.s⟩
    clear hw HO;have hzwp:wn.heap.size+1≤wp.heap.size:=Nat.le_of_eq NO.out.s.symm;have HN1:Hid (Ah wp gn (hvA x) 42):=(NO.out.b.block _ zo).trans HNn.out;have HY1:Hid (Ah wp wr.heap.size (hvA y) 42):=(NO.out.b.block _ zo).trans HYn.out;refine hK.out _ _ ⟨HN1.out,HY1.out⟩ fun _=>?_;clear hK K
    try simp only[Act.put,zu]
    refine zr 2 rfl (fun K hK=>?_);have HO:=zh (Zro.new wp);go_simp;generalize hw:World.alloc wp _=wq;have ID:Hid (Zro wp wq):=by rw[←hw];exact HO.out
    clear hw HO;have hzwq:wp.heap.size+1≤wq.heap.size:=Nat.le_of_eq ID.out.s.symm;have HN2:Hid (Ah wq gn (hvA x) 42):=(ID.out.b.block _ zo).trans HN1.out;have HY2:Hid (Ah wq wr.heap.size (hvA y) 42):=(ID.out.b.block _ zo).trans HY1.out;refine hK.out _ _ ⟨HN2.out,HY2.out⟩ fun _=>?_;clear hK K
    try simp only[Act.put,zu]
    have HBq:Hid (Below gn w3 wq):=HBN.out.trans ((NO.out.b.mono zo).trans (ID.out.b.mono zo));have HZ1q:Hid (Ah wq wn.heap.size (Array.replicate 16 (Value.int .u8 0)) 42):=(ID.out.b.block _ zo).trans NO.out.z;have HZ2q:=zh (ID.out.z);refine zr 4 rfl (fun K hK=>?_);rw[if_pos (by rfl)];refine wp_store_row 42 _ _ rfl (wp.heap.size) (hvA x) rfl rfl 42 _ HZ2q.out (aI eR.out) (cE eR.out) (cM _) ?_;generalize hw:World.setRow wq _ _=w7;have H12s:Hid (Ah w7 wp.heap.size (hvA x) 42):=by rw[←hw];exact setRow_heap _ _ _ _ _ _ HZ2q.out
    have aCa:Hid (Ah w7 wn.heap.size (Array.replicate 16 (Value.int .u8 0)) 42):=by rw[←hw];exact (setRow_other _ _ _ _ zo).trans HZ1q.out
    have HN7:Hid (Ah w7 gn (hvA x) 42):=by rw[←hw];exact (setRow_other _ _ _ _ zo).trans HN2.out
    have HY7:Hid (Ah w7 wr.heap.size (hvA y) 42):=by rw[←hw];exact (setRow_other _ _ _ _ zo).trans HY2.out
    have HB7:Hid (Below gn w3 w7):=by rw[←hw];exact below_setRow HBq.out zo _
    have hs7:wq.heap.size≤w7.heap.size:=by rw[←hw];simp[World.setRow]
    clear hw
    skip
    refine hK.out _ _ ⟨HN7.out,HY7.out⟩ fun _=>?_;clear hK K
    try simp only[Act.put,zu]
    refine zr 5 rfl (fun K hK=>?_);rw[if_pos (by rfl)];refine wp_store_row 42 _ _ rfl (wn.heap.size) (hvA y) rfl rfl 42 _ aCa.out (aI cQ.out) (cE cQ.out) (cM _) ?_;generalize hw:World.setRow w7 _ _=w8;have H12:Hid (Ah w8 wp.heap.size (hvA x) 42):=by rw[←hw];exact (setRow_other _ _ _ _ zo).trans H12s.out
    have H13:Hid (Ah w8 wn.heap.size (hvA y) 42):=by rw[←hw];exact setRow_heap _ _ _ _ _ _ aCa.out
    have HN8:Hid (Ah w8 gn (hvA x) 42):=by rw[←hw];exact (setRow_other _ _ _ _ zo).trans HN7.out
    have HY8:Hid (Ah w8 wr.heap.size (hvA y) 42):=by rw[←hw];exact (setRow_other _ _ _ _ zo).trans HY7.out
    have HB8:Hid (Below gn w3 w8):=by rw[←hw];exact below_setRow HB7.out zo _
    have hs8:wq.heap.size≤w8.heap.size:=by rw[←hw];simp[World.setRow];omega
    clear hw
    skip
    refine hK.out _ _ ⟨HN8.out,HY8.out⟩ fun _=>?_;clear hK K
    try simp only[Act.put,zu]
    refine zd ?_ _;by_cases hodd:i % 2=1
    ·have hp1:((i:Int) % 2 == 1)=true:=by simp;omega
     have HA16:=zh cQ.out;have HB16:=zh eR.out
     go_wp2_with (first
      | (refine wpList_load_row rfl 42 _ rfl (wn.heap.size) rfl 42 _ (0,0) _ H13.out Tryz.underlying42 rfl (aI cQ.out) ?_)
      | (refine wpList_load_row rfl 42 _ rfl (wp.heap.size) rfl 42 _ (0,0) _ H12.out Tryz.underlying42 rfl (aI eR.out) ?_)
      | (refine wpList_store_row rfl 42 _ _ rfl (wp.heap.size) _ rfl rfl 42 _ H12.out (aI cQ.out) (by simp[hvA,eR.out.1,cQ.out.1]) (cM _) ?_;generalize hw9:World.setRow w8 _ _=w9;have H12a:Hid (w9.heap[wp.heap.size]? = some (.cells (hvA y) 42 (0,0))):=(by rw[←hw9];exact setRow_heap _ _ _ _ _ _ H12.out);have aCb:Hid (w9.heap[wn.heap.size]? = some (.cells (hvA y) 42 (0,0))):=(by rw[←hw9];exact (setRow_other _ _ _ _ zo).trans H13.out);have HN9:Hid (w9.heap[gn]? = some (.cells (hvA x) 42 (0,0))):=(by rw[←hw9];exact (setRow_other _ _ _ _ zo).trans HN8.out);have HB9:Hid (Below gn w3 w9):=(by rw[←hw9];exact below_setRow HB8.out zo _);have hs9:gn+3≤w9.heap.size:=(by rw[←hw9];simp[World.setRow];omega);clear hw9)
      | (refine wpList_store_row rfl 42 _ _ rfl (wn.heap.size) _ rfl rfl 42 _ aCb.out (aI eR.out) (by simp[hvA,eR.out.1,cQ.out.1]) (cM _) ?_;generalize hwa:World.setRow w9 _ _=wa;have H13b:Hid (wa.heap[wn.heap.size]? = some (.cells (hvA x) 42 (0,0))):=(by rw[←hwa];exact setRow_heap _ _ _ _ _ _ aCb.out);have H12b:Hid (wa.heap[wp.heap.size]? = some (.cells (hvA y) 42 (0,0))):=(by rw[←hwa];exact (setRow_other _ _ _ _ zo).trans H12a.out);have HNb:Hid (wa.heap[gn]? = some (.cells (hvA x) 42 (0,0))):=(by rw[←hwa];exact (setRow_other _ _ _ _ zo).trans HN9.out);have HBb:Hid (Below gn w3 wa):=(by rw[←hwa];exact below_setRow HB9.out zo _);have hsb:gn+3≤wa.heap.size:=(by rw[←hwa];simp[World.setRow];omega);clear hwa)
      | (refine wpList_load_row rfl 42 _ rfl (wp.heap.size) rfl 42 _ (0,0) _ H12b.out Tryz.underlying42 rfl (aI cQ.out) ?_)
      | (refine wpList_load_row rfl 42 _ rfl (wn.heap.size) rfl 42 _ (0,0) _ H13b.out Tryz.underlying42 rfl (aI eR.out) ?_))
     have HKb:Hid (KayIn wa):=HK3.out.below HBb.out zo;refine (nG k j y x wa cQ.out eR.out HKb.out zo).mono ?_;rintro e wc ⟨rfl,hbc⟩;have HBc:=zh hbc;have HNc:Hid (Ah wc gn (hvA x) 42):=(hbc.block _ zo).trans HNb.out;have YC:Hid (Below gn w3 wc):=HBb.out.trans (hbc.mono zo);have hsc:=hbc.size;clear hbc;have HJ:Hid (tE pl s leaf (k+1)=eX k j y x):=by show _=_;rw[HWS.out,if_pos zo]
     go_wp2_with (refine wpList_store_row rfl 42 _ _ rfl gn _ rfl rfl 42 _ HNc.out (aI (bK _ _ _ _)) (by simp[hvA,eR.out.1,(bK (k:Int) (j:Int) y x).1]) (cM _) ?_;generalize hwd:World.setRow wc _ _=wd;have HNd:Hid (wd.heap[gn]? = some (.cells (hvA (eX k j y x)) 42 (0,0))):=(by rw[←hwd];exact setRow_heap _ _ _ _ _ _ HNc.out);have HBd:Hid (Below gn w3 wd):=(by rw[←hwd];exact below_setRow YC.out zl _);have hsd:gn+1≤wd.heap.size:=(by rw[←hwd];simp[World.setRow];omega);clear hwd)
     go_roundw
     case rel=>exact⟨k+1,by omega,by rw[HJS.out],by go_num,by rw[HJ.out];exact HNd.out,HBd.out,hsd⟩
     case measure=>simp[intOf];omega
    ·have hp1:((i:Int) % 2 == 1)=false:=by simp;omega
     go_wp2_with (first
      | (refine wpList_load_row rfl 42 _ rfl (wp.heap.size) rfl 42 _ (0,0) _ H12.out Tryz.underlying42 rfl (aI eR.out) ?_)
      | (refine wpList_load_row rfl 42 _ rfl (wn.heap.size) rfl 42 _ (0,0) _ H13.out Tryz.underlying42 rfl (aI cQ.out) ?_))
     have HKb:Hid (KayIn w8):=HK3.out.below HB8.out zo;refine (nG k j x y w8 eR.out cQ.out HKb.out zo).mono ?_;rintro e wc ⟨rfl,hbc⟩;have HBc:=zh hbc;have HNc:Hid (Ah wc gn (hvA x) 42):=(hbc.block _ zo).trans HN8.out;have YC:Hid (Below gn w3 wc):=HB8.out.trans (hbc.mono zo);have hsc:=hbc.size;clear hbc;have HJ:Hid (tE pl s leaf (k+1)=eX k j x y):=by show _=_;rw[HWS.out,if_neg zo]
     go_wp2_with (refine wpList_store_row rfl 42 _ _ rfl gn _ rfl rfl 42 _ HNc.out (aI (bK _ _ _ _)) (by simp[hvA,eR.out.1,(bK (k:Int) (j:Int) x y).1]) (cM _) ?_;generalize hwd:World.setRow wc _ _=wd;have HNd:Hid (wd.heap[gn]? = some (.cells (hvA (eX k j x y)) 42 (0,0))):=(by rw[←hwd];exact setRow_heap _ _ _ _ _ _ HNc.out);have HBd:Hid (Below gn w3 wd):=(by rw[←hwd];exact below_setRow YC.out zl _);have hsd:gn+1≤wd.heap.size:=(by rw[←hwd];simp[World.setRow];omega);clear hwd)
     go_roundw
     case rel=>exact⟨k+1,by omega,by rw[HJS.out],by go_num,by rw[HJ.out];exact HNd.out,HBd.out,hsd⟩
     case measure=>simp[intOf];omega
  ·obtain rfl:k=h:=by omega
   have hd1:decide ((k:Int)<(k:Int))=false:=by simp
   have HSkr:Hid (Ah wr w.heap.size (pkA k r) 44):=(HBR.out.block _ zo).trans HSk3.out;have HRr:=zh (pk_r HSkr.out);have HIW:=zh (uR (p:=pl) aAw.out leaf k);have HNQ:Hid (wr.rangeAt gn 0 ((tE pl s leaf k).map (Value.int .u8))):=bC HNR.out;have heq:=HEQ.out wr;rw[HSR.out] at heq
   go_wp2_with (first
    | (refine cD (by rfl) 42 _ rfl gn 0 rfl _ _ HNQ.out Tryz.underlying42 rfl (bS HIW.out) ?_)
    | (refine cD (by rfl) 42 _ rfl w.heap.size 1 rfl _ _ HRr.out Tryz.underlying42 rfl HIR.out ?_))
   go_ret;refine⟨?_,YD.out.trans (HBR.out.mono zo)⟩;rw[HSR.out];rfl
theorem FH (h:Int) (r d:List Int) (l:Int) (sp1:Option Addr) (n c1:Nat) (sp2:Option Addr) (m c2:Nat) (cl pl:List (List Int)) (w:World) (hr:H16 r) (hd:D32 d) (hc:HvsIn w w.heap.size sp1 n c1 cl) (hp:HvsIn w w.heap.size sp2 m c2 pl) (hk:KayIn w) (hk0:4<w.heap.size) :
 Calls Tryz.prog 103 #[.agg (pkA h r),.agg (dgA d),.agg (siA l (.slice sp1 n c1) (.slice sp2 m c2))] w fun e w'=>e=.returned (.bool (SG h r d l n m cl pl))∧Below w.heap.size w w':=by
 by_cases hs:mA h l n m=true
 ·have hs2:=hs;unfold mA at hs2;obtain⟨⟨h0,h6⟩,l0,l1,rfl,hm⟩:=of_decide_eq_true hs2;obtain⟨k,rfl⟩:∃ k:Nat,h=(k:Int):=⟨h.toNat,by omega⟩;obtain⟨leaf,rfl⟩:∃ leaf:Nat,l=(leaf:Int):=⟨l.toNat,by omega⟩;obtain rfl:m=k:=by omega
  unfold lvN at l1;rw[Int.toNat_natCast] at l1;have hv:=FG m r d leaf sp1 c1 sp2 c2 cl pl w hr hd zo zo hc hp hk hk0;unfold SG;rw[hs,Bool.true_and,Int.toNat_natCast,Int.toNat_natCast];exact hv
 ·have hs2:mA h l n m=false:=by simpa using hs
  unfold SG;rw[hs2,Bool.false_and];exact JA h r d l sp1 n c1 sp2 m c2 w hr hs2
theorem pubN (x:List Int) (i:Nat):OD x (i:Int)=iR x 0 i:=rfl
theorem OP {x d:List Int} {h leaf:Nat} (hd:D32 d) (hh:h≤6) (hl:leaf<2 ^ h):SG (h:Int) (iR x h 0) d (leaf:Int) 68 h (jA x leaf d) (eP x h leaf)=true:=by
 unfold SG;have h1:mA (h:Int) (leaf:Int) 68 h=true:=by
  unfold mA;rw[decide_eq_true];refine⟨by omega,by omega,?_,rfl,rfl⟩;unfold lvN;rw[Int.toNat_natCast];omega
 rw[h1,Bool.true_and,Int.toNat_natCast,Int.toNat_natCast,yJ (x:=x) (leaf:Int) hd,pubN,OM x hl];exact decide_eq_true rfl
theorem PE {h leaf:Nat} (hh:h≤6) (hl:leaf<2 ^ h):mA (h:Int) (leaf:Int) 68 h=true:=by
 unfold mA;rw[decide_eq_true];refine⟨by omega,by omega,?_,rfl,rfl⟩;unfold lvN;rw[Int.toNat_natCast];omega
theorem lB (x:List Int) (leaf:Int) (d:List Int):(jA x leaf d).length=68:=by simp[jA]
theorem iQ (x:List Int) (h leaf:Nat):(eP x h leaf).length=h:=by simp[eP]
structure ZzBox (w w0:World):Prop where
 y:w0.heap[w.heap.size]? = some (.cells (sgA bQ 0 0) 52 (0,0))
 z:w0.heap[w.heap.size+1]? = some (.cells (siA 0 aH aH) 48 (0,0))
 b:Below w.heap.size w w0
 k:w0.heap.size=w.heap.size+2
theorem ZzBox.new (w:World):ZzBox w ((w.alloc (.cells (sgA bQ 0 0) 52)).alloc (.cells (siA 0 aH aH) 48)) :=
 ⟨(heap_alloc_old _ _ (by simp)).trans (heap_alloc_new w _),by have h:=heap_alloc_new (w.alloc (.cells (sgA bQ 0 0) 52)) (.cells (siA 0 aH aH) 48);rw[World.size_alloc] at h;exact h,((Below.refl _ _).alloc zl _).alloc (by simp) _,by simp⟩
structure PkRow (w:World) (h:Int) (r:List Int) (w0:World):Prop where
 k:w0.heap[w.heap.size]? = some (.cells (pkA h r) 44 (0,0))
 b:Below w.heap.size w w0
 s:w0.heap.size=w.heap.size+1
theorem PkRow.new (w:World) (h:Int) (r:List Int):PkRow w h r (w.alloc (.cells (pkA h r) 44)):=⟨heap_alloc_new w _,aA _ _,aF _ _⟩
end Go.Proofs.YtaeobegaodhpcaaGreatDoor
namespace Go.Proofs.YtaeobegaodhpcaaGreatDoor
open Go.RowKit
def dls:List Int→List Int→Bool
 | [],[]=>false
 | [],_ :: _=>true
 | _ :: _,[]=>false
 | x :: a,y :: b=>if x=y then dls a b else decide (x<y)
theorem uD:∀ a:List Int,dls a a=false
 | []=>rfl
 | x :: a=>by rw[dls,if_pos rfl];exact uD a
theorem kO:∀ {a b c:List Int},dls a b=true→dls b c=true→dls a c=true
 | [],[],c,h,_=>by simp[dls] at h
 | [],_ :: _,[],_,k=>by simp[dls] at k
 | [],_ :: _,_ :: _,_,_=>rfl
 | _ :: _,[],_,h,_=>by simp[dls] at h
 | _ :: _,_ :: _,[],_,k=>by simp[dls] at k
 | x :: a, y :: b, z :: c, h, k => by
   rw[dls] at h k ⊢;by_cases h1:x=y
   ·subst h1;rw[if_pos rfl] at h;by_cases h2:x=z
    ·subst h2;rw[if_pos rfl] at k ⊢;exact kO h k
    ·rw[if_neg h2] at k ⊢;exact k
   ·rw[if_neg h1] at h;have h1':=of_decide_eq_true h;by_cases h2:y=z
    ·subst h2;rw[if_neg h1];exact h
    ·rw[if_neg h2] at k;have k':=of_decide_eq_true k;rw[if_neg zo];exact decide_eq_true zo
theorem MW:∀ {a b:List Int},dls a b=false→dls b a=false→a=b
 | [],[],_,_=>rfl
 | [],_ :: _,h,_=>by simp[dls] at h
 | _ :: _,[],_,k=>by simp[dls] at k
 | x :: a, y :: b, h, k => by
   rw[dls] at h k;by_cases h1:x=y
   ·subst h1;rw[if_pos rfl] at h k;rw[MW h k]
   ·rw[if_neg h1] at h;rw[if_neg (Ne.symm h1)] at k;have h':=of_decide_eq_false h;have k':=of_decide_eq_false k;omega
theorem TE {a b:List Int} (h:dls a b=true):a≠b:=fun e=>by rw[e,uD] at h;cases h
theorem RA {a b:List Int} {k:Nat} {x y:Int} (h:dls a b=dls (a.drop k) (b.drop k)) (hx:a[k]? = some x) (hy:b[k]? = some y) :
 (x=y→dls a b=dls (a.drop (k+1)) (b.drop (k+1)))∧(x≠y→dls a b=decide (x<y)):=by
 obtain⟨h1,rfl⟩:=List.getElem?_eq_some_iff.1 hx;obtain⟨h2,rfl⟩:=List.getElem?_eq_some_iff.1 hy;rw[h,List.drop_eq_getElem_cons h1,List.drop_eq_getElem_cons h2];exact⟨fun e=>by rw[dls,if_pos e],fun e=>by rw[dls,if_neg e]⟩
theorem vZ:∀ (a b:List Int),(∀ x ∈ a,0≤x∧x<256)→(∀ x ∈ b,0≤x∧x<256)→decide (Lib.compareBytes (Lib.bytesOf a) (Lib.bytesOf b)<0)=dls a b
 | [],[],_,_=>rfl
 | [],_ :: _,_,_=>rfl
 | _ :: _,[],_,_=>rfl
 | x :: a, y :: b, ha, hb => by
   have h1:=ha x (by simp);have h2:=hb y (by simp);have ih:=vZ a b (fun z hz=>ha z (by simp[hz])) (fun z hz=>hb z (by simp[hz]));have n1:(UInt8.ofNat x.toNat).toNat=x.toNat:=by simp;omega
   have n2:(UInt8.ofNat y.toNat).toNat=y.toNat:=by simp;omega
   have hlt:((UInt8.ofNat x.toNat)<(UInt8.ofNat y.toNat))↔x<y:=by rw[UInt8.lt_iff_toNat_lt,n1,n2];omega
   have hgt:((UInt8.ofNat y.toNat)<(UInt8.ofNat x.toNat))↔y<x:=by rw[UInt8.lt_iff_toNat_lt,n1,n2];omega
   show decide ((if UInt8.ofNat x.toNat<UInt8.ofNat y.toNat then (-1:Int) else if UInt8.ofNat y.toNat<UInt8.ofNat x.toNat then 1 else Lib.compareBytes (Lib.bytesOf a) (Lib.bytesOf b))<0)=_;rw[dls];by_cases c1:x<y
   ·rw[if_pos (hlt.2 c1),if_neg zo];simp[c1]
   ·rw[if_neg (fun h=>c1 (hlt.1 h))];by_cases c2:y<x
    ·rw[if_pos (hgt.2 c2),if_neg zo];simp;omega
    ·rw[if_neg (fun h=>c2 (hgt.1 h)),if_pos zo];exact ih
theorem GX:∀ (a b:List Int),(∀ x ∈ a,0≤x∧x<256)→(∀ x ∈ b,0≤x∧x<256)→decide (Lib.compareBytes (Lib.bytesOf a) (Lib.bytesOf b) ≥ 0) = !dls a b:=by
 intro a b ha hb;rw[←vZ a b ha hb];by_cases h:Lib.compareBytes (Lib.bytesOf a) (Lib.bytesOf b)<0
 ·rw[decide_eq_true h,decide_eq_false zo];rfl
 ·rw[decide_eq_false h,decide_eq_true zo];rfl
theorem rK {P:Program} {w:World} (b1 o1 n1 c1:Nat) (xs:List Int) (b2 o2 n2 c2:Nat) (ys:List Int) (hx:xs.length=n1) (hy:ys.length=n2)
 (h1:∀ i,i<n1→w.cell? ⟨b1,o1+i,none⟩=some (.int .u8 (xs.getD i 0))) (h2:∀ i,i<n2→w.cell? ⟨b2,o2+i,none⟩=some (.int .u8 (ys.getD i 0))) :
 (Extern.BytealgCompare.compare #[.slice (some ⟨b1,o1,none⟩) n1 c1,.slice (some ⟨b2,o2,none⟩) n2 c2]).run P w=.ok (.int .i64 (Lib.compareBytes (Lib.bytesOf xs) (Lib.bytesOf ys))) w:=by
 have hl:∀ (b off n:Nat) (zs:List Int),zs.length=n→(∀ i,i<n→w.cell? ⟨b,off+i,none⟩=some (.int .u8 (zs.getD i 0)))→(Extern.Bytes.loadBytes ⟨b,off,none⟩ n .empty).run P w=.ok ⟨(Lib.bytesOf zs).toArray⟩ w:=by
  intro b off n zs hz hc;have h:=Lib.run_loadBytesX (P:=P) w zs ⟨b,off,none⟩ .empty (fun j x hj=>by
   have hjl:j<zs.length:=(List.getElem?_eq_some_iff.1 hj).1;rw[Addr.add_mid,hc j zo,List.getD_eq_getElem?_getD,hj];rfl)
  rw[hz] at h;rw[h];congr 1;apply ByteArray.ext;show (#[]:Array UInt8)++(Lib.bytesOf zs).toArray=(Lib.bytesOf zs).toArray;simp
 have e1:=hl b1 o1 n1 xs hx h1;have e2:=hl b2 o2 n2 ys hy h2;have hs:=Lib.run_compareString (P:=P) ⟨(Lib.bytesOf xs).toArray⟩ ⟨(Lib.bytesOf ys).toArray⟩ w;change Sem.run P (do pure (goInt (Extern.BytealgCompare.cmp (←Extern.Bytes.bytesOf (.string ⟨(Lib.bytesOf xs).toArray⟩)) (←Extern.Bytes.bytesOf (.string ⟨(Lib.bytesOf ys).toArray⟩))))) w=_ at hs;change Sem.run P (do pure (goInt (Extern.BytealgCompare.cmp (←Extern.Bytes.bytesOf (.slice (some ⟨b1,o1,none⟩) n1 c1)) (←Extern.Bytes.bytesOf (.slice (some ⟨b2,o2,none⟩) n2 c2))))) w=_;simp only[Extern.Bytes.bytesOf,Sem.run_bind,Sem.run_pure,e1,e2,Result.andThen] at hs ⊢;exact hs
end Go.Proofs.YtaeobegaodhpcaaGreatDoor
