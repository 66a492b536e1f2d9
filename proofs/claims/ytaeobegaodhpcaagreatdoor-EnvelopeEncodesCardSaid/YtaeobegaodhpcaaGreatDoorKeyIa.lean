/-
  Keys of many one-time keys: the walk of Shaped, way by way.
-/
import Derived.Test.YtaeobegaodhpcaaGreatDoorZip
import Derived.Test.YtaeobegaodhpcaaGreatDoorQ11
set_option maxRecDepth 100000
set_option maxHeartbeats 8000000
namespace Go.Proofs.YtaeobegaodhpcaaGreatDoor
open Go.RowKit Go.Proofs.YtaeobegaodhpcaaGreatDoor.One
theorem JY (h:Int) (r:List Int) (l:Int) (sp1:Option Addr) (n c1:Nat) (sp2:Option Addr) (m c2:Nat) (w:World) (hr:H16 r) (hv:eI h=false) :
 Calls Tryz.prog 67 #[.agg (pkA h r),.agg (siA l (.slice sp1 n c1) (.slice sp2 m c2))] w fun e w'=>e=.returned (.bool false)∧Below w.heap.size w w':=by
 have iJ:=zh hr;have HV:=zh hv;clear hv;clear hr;have HT:=zh (PsBox.new w h r l (.slice sp1 n c1) (.slice sp2 m c2))
 go_enter Tryz.func67,Tryz.ntmps67
 go_wp2_with fail;generalize hw0:World.alloc (World.alloc w _) _=w0;have HT0:Hid (PsBox w h r l (.slice sp1 n c1) (.slice sp2 m c2) w0):=by rw[←hw0];exact HT.out
 clear hw0 HT;have hs0:w.heap.size+2≤w0.heap.size:=Nat.le_of_eq HT0.out.z.symm;have HVC:=zh (fun w'=>(show Calls Tryz.prog 106 #[.agg (pkL h r).toArray] w' fun e w''=>e=.returned (.bool (eI h))∧Below w'.heap.size w' w'' from iN h r w'));refine wp_region_held_drew (S:=fun w'=>w'.heap[w.heap.size]? = some (.cells (pkA h r) 44 (0,0))∧w'.heap[w.heap.size+1]? = some (.cells (siA l (.slice sp1 n c1) (.slice sp2 m c2)) 48 (0,0))) (by kernel_rfl) ⟨HT0.out.k,HT0.out.s⟩ (fun hHeld=>?_);refine' zk 0 rfl (v:=_) (yieldsIf_load_mid (by rfl) _ _ rfl _ _ rfl _ _ ?hS0n1 Tryz.underlying44 rfl (jJ iJ.out)) ?rest0n1
 case hS0n1 =>
  intro w' hSw;exact bC hSw.1
 try simp only[Act.put,zu]
 refine zr 1 rfl (fun K hK=>?_);go_simp
 with_reducible refine (HVC.out _).mono ?_
 rintro e w2 ⟨rfl,hb⟩;rw[HV.out];have HB2:Hid (Bw w0 w2):=(Below.refl _ _).drew.trans hb;clear hb;have HK2:Hid (Ah w2 w.heap.size (pkA h r) 44):=(HB2.out.block _ zo).trans HT0.out.k;have HS2:Hid (Ah w2 (w.heap.size+1) (siA l (.slice sp1 n c1) (.slice sp2 m c2)) 48):=(HB2.out.block _ zo).trans HT0.out.s;go_wp2_with fail;refine hK.out _ _ ⟨HK2.out,HS2.out⟩ fun _=>?_;clear hK K
 try simp only[Act.put,zu]
 refine zv 2 rfl ?_;refine zk 3 rfl (v:=undef) (.inr ⟨by rfl,rfl⟩) ?_;try simp only[Act.put,zu]
 refine zk 4 rfl (v:=undef) (.inr ⟨by rfl,rfl⟩) ?_;try simp only[Act.put,zu]
 refine zk 5 rfl (v:=undef) (.inr ⟨by rfl,rfl⟩) ?_;try simp only[Act.put,zu]
 refine zv 6 rfl ?_;refine zv 7 rfl ?_;refine zk 8 rfl (v:=undef) (.inr ⟨by rfl,rfl⟩) ?_;try simp only[Act.put,zu]
 refine zk 9 rfl (v:=undef) (.inr ⟨by rfl,rfl⟩) ?_;try simp only[Act.put,zu]
 refine zk 10 rfl (v:=undef) (.inr ⟨by rfl,rfl⟩) ?_;try simp only[Act.put,zu]
 refine zk 11 rfl (v:=undef) (.inr ⟨by rfl,rfl⟩) ?_;try simp only[Act.put,zu]
 refine zr 12 rfl (fun K hK=>?_);rw[if_neg (by exact Bool.false_ne_true)];refine hK.out _ _ ⟨HK2.out,HS2.out⟩ fun _=>?_;clear hK K
 try simp only[Act.put,zu]
 refine zk 13 rfl (v:=undef) (.inr ⟨by rfl,rfl⟩) ?_;try simp only[Act.put,zu]
 refine zv 14 rfl ?_;refine zv 15 rfl ?_;refine zk 16 rfl (v:=undef) (.inr ⟨by rfl,rfl⟩) ?_;try simp only[Act.put,zu]
 refine zk 17 rfl (v:=undef) (.inr ⟨by rfl,rfl⟩) ?_;try simp only[Act.put,zu]
 refine zk 18 rfl (v:=undef) (.inr ⟨by rfl,rfl⟩) ?_;try simp only[Act.put,zu]
 refine zk 19 rfl (v:=undef) (.inr ⟨by rfl,rfl⟩) ?_;try simp only[Act.put,zu]
 refine zv 20 rfl ?_;refine zv 21 rfl ?_;refine zk 22 rfl (v:=undef) (.inr ⟨by rfl,rfl⟩) ?_;try simp only[Act.put,zu]
 refine zk 23 rfl (v:=undef) (.inr ⟨by rfl,rfl⟩) ?_;try simp only[Act.put,zu]
 refine zk 24 rfl (v:=undef) (.inr ⟨by rfl,rfl⟩) ?_;try simp only[Act.put,zu]
 refine zk 25 rfl (v:=undef) (.inr ⟨by rfl,rfl⟩) ?_;try simp only[Act.put,zu]
 refine zk 26 rfl (v:=undef) (.inr ⟨by rfl,rfl⟩) ?_;try simp only[Act.put,zu]
 refine zk 27 rfl (v:=undef) (.inr ⟨by rfl,rfl⟩) ?_;try simp only[Act.put,zu]
 refine zv 28 rfl ?_;refine zv 29 rfl ?_;refine zd ?_ _;go_wp2_with fail;go_ret;exact⟨rfl,HT0.out.b.trans (HB2.out.mono zo)⟩
theorem JX (h:Nat) (r:List Int) (l:Int) (sp1:Option Addr) (n c1:Nat) (sp2:Option Addr) (m c2:Nat) (w:World) (hr:H16 r) (hh:h≤6) (hl:l<0) :
 Calls Tryz.prog 67 #[.agg (pkA (h:Int) r),.agg (siA l (.slice sp1 n c1) (.slice sp2 m c2))] w fun e w'=>e=.returned (.bool false)∧Below w.heap.size w w':=by
 have iJ:=zh hr;have HV:Hid (eI (h:Int)=true):=by show _=_;unfold eI;simp;omega
 have HLV:=zh (fun w'=>eM h w' hh);have q1:decide (0≤l)=false:=by simp;omega
 clear hl hr;have HT:=zh (PsBox.new w (h:Int) r l (.slice sp1 n c1) (.slice sp2 m c2))
 go_enter Tryz.func67,Tryz.ntmps67
 go_wp2_with fail;generalize hw0:World.alloc (World.alloc w _) _=w0;have HT0:Hid (PsBox w (h:Int) r l (.slice sp1 n c1) (.slice sp2 m c2) w0):=by rw[←hw0];exact HT.out
 clear hw0 HT;have hs0:w.heap.size+2≤w0.heap.size:=Nat.le_of_eq HT0.out.z.symm;have HVC:=zh (fun w'=>(show Calls Tryz.prog 106 #[.agg (pkL (h:Int) r).toArray] w' fun e w''=>e=.returned (.bool (eI (h:Int)))∧Below w'.heap.size w' w'' from iN (h:Int) r w'));refine wp_region_held_drew (S:=fun w'=>w'.heap[w.heap.size]? = some (.cells (pkA (h:Int) r) 44 (0,0))∧w'.heap[w.heap.size+1]? = some (.cells (siA l (.slice sp1 n c1) (.slice sp2 m c2)) 48 (0,0))) (by kernel_rfl) ⟨HT0.out.k,HT0.out.s⟩ (fun hHeld=>?_);refine' zk 0 rfl (v:=_) (yieldsIf_load_mid (by rfl) _ _ rfl _ _ rfl _ _ ?hS0n47 Tryz.underlying44 rfl (jJ iJ.out)) ?rest0n47
 case hS0n47 =>
  intro w' hSw;exact bC hSw.1
 try simp only[Act.put,zu]
 refine zr 1 rfl (fun K hK=>?_);go_simp
 with_reducible refine (HVC.out _).mono ?_
 rintro e w2 ⟨rfl,hb⟩;rw[HV.out];have HB2:Hid (Bw w0 w2):=(Below.refl _ _).drew.trans hb;clear hb;have HK2:Hid (Ah w2 w.heap.size (pkA (h:Int) r) 44):=(HB2.out.block _ zo).trans HT0.out.k;have HS2:Hid (Ah w2 (w.heap.size+1) (siA l (.slice sp1 n c1) (.slice sp2 m c2)) 48):=(HB2.out.block _ zo).trans HT0.out.s;go_wp2_with fail;refine hK.out _ _ ⟨HK2.out,HS2.out⟩ fun _=>?_;clear hK K
 try simp only[Act.put,zu]
 refine zv 2 rfl ?_;refine zv 3 rfl ?_;refine zx 4 rfl (v:=?_) ?_ ?_;rotate_left
 ·intro w' hSw;have c1:=rI hSw.2;go_simp;try with_reducible rfl
 refine zv 5 rfl ?_;refine zv 6 rfl ?_;refine zv 7 rfl ?_;refine zk 8 rfl (v:=undef) (.inr ⟨by rfl,rfl⟩) ?_;try simp only[Act.put,zu]
 refine zk 9 rfl (v:=undef) (.inr ⟨by rfl,rfl⟩) ?_;try simp only[Act.put,zu]
 refine zk 10 rfl (v:=undef) (.inr ⟨by rfl,rfl⟩) ?_;try simp only[Act.put,zu]
 refine zk 11 rfl (v:=undef) (.inr ⟨by rfl,rfl⟩) ?_;try simp only[Act.put,zu]
 refine zr 12 rfl (fun K hK=>?_);rw[if_neg (by exact Bool.false_ne_true)];refine hK.out _ _ ⟨HK2.out,HS2.out⟩ fun _=>?_;clear hK K
 try simp only[Act.put,zu]
 refine zk 13 rfl (v:=undef) (.inr ⟨by rfl,rfl⟩) ?_;try simp only[Act.put,zu]
 refine zv 14 rfl ?_;refine zv 15 rfl ?_;refine zk 16 rfl (v:=undef) (.inr ⟨by rfl,rfl⟩) ?_;try simp only[Act.put,zu]
 refine zk 17 rfl (v:=undef) (.inr ⟨by rfl,rfl⟩) ?_;try simp only[Act.put,zu]
 refine zk 18 rfl (v:=undef) (.inr ⟨by rfl,rfl⟩) ?_;try simp only[Act.put,zu]
 refine zk 19 rfl (v:=undef) (.inr ⟨by rfl,rfl⟩) ?_;try simp only[Act.put,zu]
 refine zv 20 rfl ?_;refine zv 21 rfl ?_;refine zk 22 rfl (v:=undef) (.inr ⟨by rfl,rfl⟩) ?_;try simp only[Act.put,zu]
 refine zk 23 rfl (v:=undef) (.inr ⟨by rfl,rfl⟩) ?_;try simp only[Act.put,zu]
 refine zk 24 rfl (v:=undef) (.inr ⟨by rfl,rfl⟩) ?_;try simp only[Act.put,zu]
 refine zk 25 rfl (v:=undef) (.inr ⟨by rfl,rfl⟩) ?_;try simp only[Act.put,zu]
 refine zk 26 rfl (v:=undef) (.inr ⟨by rfl,rfl⟩) ?_;try simp only[Act.put,zu]
 refine zk 27 rfl (v:=undef) (.inr ⟨by rfl,rfl⟩) ?_;try simp only[Act.put,zu]
 refine zv 28 rfl ?_;refine zv 29 rfl ?_;refine zd ?_ _;go_wp2_with fail;go_ret;exact⟨rfl,HT0.out.b.trans (HB2.out.mono zo)⟩
theorem JW (h:Nat) (r:List Int) (l:Int) (sp1:Option Addr) (n c1:Nat) (sp2:Option Addr) (m c2:Nat) (w:World) (hr:H16 r) (hh:h≤6) (hl:0≤l) (hl2:lvN h≤l) :
 Calls Tryz.prog 67 #[.agg (pkA (h:Int) r),.agg (siA l (.slice sp1 n c1) (.slice sp2 m c2))] w fun e w'=>e=.returned (.bool false)∧Below w.heap.size w w':=by
 have iJ:=zh hr;have HV:Hid (eI (h:Int)=true):=by show _=_;unfold eI;simp;omega
 have HLV:=zh (fun w'=>eM h w' hh);have q1:decide (0≤l)=true:=by simp;omega
 have q2:decide (l<lvN h)=false:=by simp;omega
 clear hl hl2 hr;have HT:=zh (PsBox.new w (h:Int) r l (.slice sp1 n c1) (.slice sp2 m c2))
 go_enter Tryz.func67,Tryz.ntmps67
 go_wp2_with fail;generalize hw0:World.alloc (World.alloc w _) _=w0;have HT0:Hid (PsBox w (h:Int) r l (.slice sp1 n c1) (.slice sp2 m c2) w0):=by rw[←hw0];exact HT.out
 clear hw0 HT;have hs0:w.heap.size+2≤w0.heap.size:=Nat.le_of_eq HT0.out.z.symm;have HVC:=zh (fun w'=>(show Calls Tryz.prog 106 #[.agg (pkL (h:Int) r).toArray] w' fun e w''=>e=.returned (.bool (eI (h:Int)))∧Below w'.heap.size w' w'' from iN (h:Int) r w'));refine wp_region_held_drew (S:=fun w'=>w'.heap[w.heap.size]? = some (.cells (pkA (h:Int) r) 44 (0,0))∧w'.heap[w.heap.size+1]? = some (.cells (siA l (.slice sp1 n c1) (.slice sp2 m c2)) 48 (0,0))) (by kernel_rfl) ⟨HT0.out.k,HT0.out.s⟩ (fun hHeld=>?_);refine' zk 0 rfl (v:=_) (yieldsIf_load_mid (by rfl) _ _ rfl _ _ rfl _ _ ?hS0n90 Tryz.underlying44 rfl (jJ iJ.out)) ?rest0n90
 case hS0n90 =>
  intro w' hSw;exact bC hSw.1
 try simp only[Act.put,zu]
 refine zr 1 rfl (fun K hK=>?_);go_simp
 with_reducible refine (HVC.out _).mono ?_
 rintro e w2 ⟨rfl,hb⟩;rw[HV.out];have HB2:Hid (Bw w0 w2):=(Below.refl _ _).drew.trans hb;clear hb;have HK2:Hid (Ah w2 w.heap.size (pkA (h:Int) r) 44):=(HB2.out.block _ zo).trans HT0.out.k;have HS2:Hid (Ah w2 (w.heap.size+1) (siA l (.slice sp1 n c1) (.slice sp2 m c2)) 48):=(HB2.out.block _ zo).trans HT0.out.s;go_wp2_with fail;refine hK.out _ _ ⟨HK2.out,HS2.out⟩ fun _=>?_;clear hK K
 try simp only[Act.put,zu]
 refine zv 2 rfl ?_;refine zv 3 rfl ?_;refine zx 4 rfl (v:=?_) ?_ ?_;rotate_left
 ·intro w' hSw;have c1:=rI hSw.2;go_simp;try with_reducible rfl
 refine zv 5 rfl ?_;refine zv 6 rfl ?_;refine zv 7 rfl ?_;refine zv 8 rfl ?_;refine zx 9 rfl (v:=?_) ?_ ?_;rotate_left
 ·intro w' hSw;have c1:=rI hSw.2;go_simp;try with_reducible rfl
 refine zv 10 rfl ?_;refine zx 11 rfl (v:=?_) ?_ ?_;rotate_left
 ·intro w' hSw;have c1:=AH hSw.1;go_simp;try with_reducible rfl
 refine zr 12 rfl (fun K hK=>?_);go_simp
 with_reducible refine (HLV.out _).mono ?_
 rintro e w' ⟨rfl,rfl⟩;go_wp2_with fail;refine hK.out _ _ ⟨HK2.out,HS2.out⟩ fun _=>?_;clear hK K
 try simp only[Act.put,zu]
 refine zv 13 rfl ?_;refine zv 14 rfl ?_;refine zv 15 rfl ?_;refine zk 16 rfl (v:=undef) (.inr ⟨by rfl,rfl⟩) ?_;try simp only[Act.put,zu]
 refine zk 17 rfl (v:=undef) (.inr ⟨by rfl,rfl⟩) ?_;try simp only[Act.put,zu]
 refine zk 18 rfl (v:=undef) (.inr ⟨by rfl,rfl⟩) ?_;try simp only[Act.put,zu]
 refine zk 19 rfl (v:=undef) (.inr ⟨by rfl,rfl⟩) ?_;try simp only[Act.put,zu]
 refine zv 20 rfl ?_;refine zv 21 rfl ?_;refine zk 22 rfl (v:=undef) (.inr ⟨by rfl,rfl⟩) ?_;try simp only[Act.put,zu]
 refine zk 23 rfl (v:=undef) (.inr ⟨by rfl,rfl⟩) ?_;try simp only[Act.put,zu]
 refine zk 24 rfl (v:=undef) (.inr ⟨by rfl,rfl⟩) ?_;try simp only[Act.put,zu]
 refine zk 25 rfl (v:=undef) (.inr ⟨by rfl,rfl⟩) ?_;try simp only[Act.put,zu]
 refine zk 26 rfl (v:=undef) (.inr ⟨by rfl,rfl⟩) ?_;try simp only[Act.put,zu]
 refine zk 27 rfl (v:=undef) (.inr ⟨by rfl,rfl⟩) ?_;try simp only[Act.put,zu]
 refine zv 28 rfl ?_;refine zv 29 rfl ?_;refine zd ?_ _;go_wp2_with fail;go_ret;exact⟨rfl,HT0.out.b.trans (HB2.out.mono zo)⟩
end Go.Proofs.YtaeobegaodhpcaaGreatDoor
