/-
  Keys of many one-time keys: the walk of Shaped, way by way.
-/
import Derived.Test.YtaeobegaodhpcaaGreatDoorZip
import Derived.Test.YtaeobegaodhpcaaGreatDoorQ11
set_option maxRecDepth 100000
set_option maxHeartbeats 8000000
namespace Go.Proofs.YtaeobegaodhpcaaGreatDoor
open Go.RowKit Go.Proofs.YtaeobegaodhpcaaGreatDoor.One
theorem JV (h:Nat) (r:List Int) (l:Int) (sp1:Option Addr) (n c1:Nat) (sp2:Option Addr) (m c2:Nat) (w:World) (hr:H16 r) (hh:h≤6) (hl:0≤l) (hl2:l<lvN h) (hn:n≠68) :
 Calls Tryz.prog 67 #[.agg (pkA (h:Int) r),.agg (siA l (.slice sp1 n c1) (.slice sp2 m c2))] w fun e w'=>e=.returned (.bool false)∧Below w.heap.size w w':=by
 have iJ:=zh hr;have HV:Hid (eI (h:Int)=true):=by show _=_;unfold eI;simp;omega
 have HLV:=zh (fun w'=>eM h w' hh);have q1:decide (0≤l)=true:=by simp;omega
 have q2:decide (l<lvN h)=true:=by simp;omega
 have q3:((n:Int) == 68)=false:=by simp;omega
 clear hl hl2 hn hr;have HT:=zh (PsBox.new w (h:Int) r l (.slice sp1 n c1) (.slice sp2 m c2))
 go_enter Tryz.func67,Tryz.ntmps67
 go_wp2_with fail;generalize hw0:World.alloc (World.alloc w _) _=w0;have HT0:Hid (PsBox w (h:Int) r l (.slice sp1 n c1) (.slice sp2 m c2) w0):=by rw[←hw0];exact HT.out
 clear hw0 HT;have hs0:w.heap.size+2≤w0.heap.size:=Nat.le_of_eq HT0.out.z.symm;have HVC:=zh (fun w'=>(show Calls Tryz.prog 106 #[.agg (pkL (h:Int) r).toArray] w' fun e w''=>e=.returned (.bool (eI (h:Int)))∧Below w'.heap.size w' w'' from iN (h:Int) r w'));refine wp_region_held_drew (S:=fun w'=>w'.heap[w.heap.size]? = some (.cells (pkA (h:Int) r) 44 (0,0))∧w'.heap[w.heap.size+1]? = some (.cells (siA l (.slice sp1 n c1) (.slice sp2 m c2)) 48 (0,0))) (by kernel_rfl) ⟨HT0.out.k,HT0.out.s⟩ (fun hHeld=>?_);refine' zk 0 rfl (v:=_) (yieldsIf_load_mid (by rfl) _ _ rfl _ _ rfl _ _ ?hS0n128 Tryz.underlying44 rfl (jJ iJ.out)) ?rest0n128
 case hS0n128 =>
  intro w' hSw;exact bC hSw.1
 try simp only[Act.put,zu]
 refine zr 1 rfl (fun K hK=>?_);go_simp
 with_reducible refine (HVC.out _).mono ?_
 rintro e w2 ⟨rfl,hb⟩;rw[HV.out];have HB2:Hid (Bw w0 w2):=(Below.refl _ _).drew.trans hb;clear hb;have HK2:Hid (Ah w2 w.heap.size (pkA (h:Int) r) 44):=(HB2.out.block _ zo).trans HT0.out.k;have HS2:Hid (Ah w2 (w.heap.size+1) (siA l (.slice sp1 n c1) (.slice sp2 m c2)) 48):=(HB2.out.block _ zo).trans HT0.out.s;go_wp2_with fail;refine hK.out _ _ ⟨HK2.out,HS2.out⟩ fun _=>?_;clear hK K
 try simp only[Act.put,zu]
 refine zv 2 rfl ?_;refine zv 3 rfl ?_;refine zx 4 rfl (v:=?_) ?_ ?_;rotate_left
 ·intro w' hSw;have c1:=rI hSw.2;go_simp;try with_reducible rfl
 refine zv 5 rfl ?_;refine zv 6 rfl ?_;refine zv 7 rfl ?_;refine zv 8 rfl ?_;refine zx 9 rfl (v:=?_) ?_ ?_;rotate_left
 ·intro w' hSw;have c1:=rI hSw.2;go_simp;try with_reducible rfl
 refine zv 10 rfl ?_;refine zx 11 rfl (v:=?_) ?_ ?_;rotate_left
 ·intro w' hSw;have c1:=AH hSw.1;go_simp;try with_reducible rfl
 refine zr 12 rfl (fun K hK=>?_);go_simp
 with_reducible refine (HLV.out _).mono ?_
 rintro e w' ⟨rfl,rfl⟩;go_wp2_with fail;refine hK.out _ _ ⟨HK2.out,HS2.out⟩ fun _=>?_;clear hK K
 try simp only[Act.put,zu]
 refine zv 13 rfl ?_;refine zv 14 rfl ?_;refine zv 15 rfl ?_;refine zv 16 rfl ?_;refine zx 17 rfl (v:=?_) ?_ ?_;rotate_left
 ·intro w' hSw;have c1:=sP hSw.2;go_simp;try with_reducible rfl
 refine zv 18 rfl ?_;refine zv 19 rfl ?_;refine zv 20 rfl ?_;refine zv 21 rfl ?_;refine zk 22 rfl (v:=undef) (.inr ⟨by rfl,rfl⟩) ?_;try simp only[Act.put,zu]
 refine zk 23 rfl (v:=undef) (.inr ⟨by rfl,rfl⟩) ?_;try simp only[Act.put,zu]
 refine zk 24 rfl (v:=undef) (.inr ⟨by rfl,rfl⟩) ?_;try simp only[Act.put,zu]
 refine zk 25 rfl (v:=undef) (.inr ⟨by rfl,rfl⟩) ?_;try simp only[Act.put,zu]
 refine zk 26 rfl (v:=undef) (.inr ⟨by rfl,rfl⟩) ?_;try simp only[Act.put,zu]
 refine zk 27 rfl (v:=undef) (.inr ⟨by rfl,rfl⟩) ?_;try simp only[Act.put,zu]
 refine zv 28 rfl ?_;refine zv 29 rfl ?_;refine zd ?_ _;go_wp2_with fail;go_ret;exact⟨rfl,HT0.out.b.trans (HB2.out.mono zo)⟩
theorem JU (h:Nat) (r:List Int) (l:Int) (sp1:Option Addr) (n c1:Nat) (sp2:Option Addr) (m c2:Nat) (w:World) (hr:H16 r) (hh:h≤6) (hl:0≤l) (hl2:l<lvN h) (hn:n=68) (hm:m≠h) :
 Calls Tryz.prog 67 #[.agg (pkA (h:Int) r),.agg (siA l (.slice sp1 n c1) (.slice sp2 m c2))] w fun e w'=>e=.returned (.bool false)∧Below w.heap.size w w':=by
 have iJ:=zh hr;have HV:Hid (eI (h:Int)=true):=by show _=_;unfold eI;simp;omega
 have HLV:=zh (fun w'=>eM h w' hh);have q1:decide (0≤l)=true:=by simp;omega
 have q2:decide (l<lvN h)=true:=by simp;omega
 have q3:((n:Int) == 68)=true:=by simp;omega
 have q4:((m:Int) == (h:Int))=false:=by simp;omega
 clear hl hl2 hn hm hr;have HT:=zh (PsBox.new w (h:Int) r l (.slice sp1 n c1) (.slice sp2 m c2))
 go_enter Tryz.func67,Tryz.ntmps67
 go_wp2_with fail;generalize hw0:World.alloc (World.alloc w _) _=w0;have HT0:Hid (PsBox w (h:Int) r l (.slice sp1 n c1) (.slice sp2 m c2) w0):=by rw[←hw0];exact HT.out
 clear hw0 HT;have hs0:w.heap.size+2≤w0.heap.size:=Nat.le_of_eq HT0.out.z.symm;have HVC:=zh (fun w'=>(show Calls Tryz.prog 106 #[.agg (pkL (h:Int) r).toArray] w' fun e w''=>e=.returned (.bool (eI (h:Int)))∧Below w'.heap.size w' w'' from iN (h:Int) r w'));refine wp_region_held_drew (S:=fun w'=>w'.heap[w.heap.size]? = some (.cells (pkA (h:Int) r) 44 (0,0))∧w'.heap[w.heap.size+1]? = some (.cells (siA l (.slice sp1 n c1) (.slice sp2 m c2)) 48 (0,0))) (by kernel_rfl) ⟨HT0.out.k,HT0.out.s⟩ (fun hHeld=>?_);refine' zk 0 rfl (v:=_) (yieldsIf_load_mid (by rfl) _ _ rfl _ _ rfl _ _ ?hS0n162 Tryz.underlying44 rfl (jJ iJ.out)) ?rest0n162
 case hS0n162 =>
  intro w' hSw;exact bC hSw.1
 try simp only[Act.put,zu]
 refine zr 1 rfl (fun K hK=>?_);go_simp
 with_reducible refine (HVC.out _).mono ?_
 rintro e w2 ⟨rfl,hb⟩;rw[HV.out];have HB2:Hid (Bw w0 w2):=(Below.refl _ _).drew.trans hb;clear hb;have HK2:Hid (Ah w2 w.heap.size (pkA (h:Int) r) 44):=(HB2.out.block _ zo).trans HT0.out.k;have HS2:Hid (Ah w2 (w.heap.size+1) (siA l (.slice sp1 n c1) (.slice sp2 m c2)) 48):=(HB2.out.block _ zo).trans HT0.out.s;go_wp2_with fail;refine hK.out _ _ ⟨HK2.out,HS2.out⟩ fun _=>?_;clear hK K
 try simp only[Act.put,zu]
 refine zv 2 rfl ?_;refine zv 3 rfl ?_;refine zx 4 rfl (v:=?_) ?_ ?_;rotate_left
 ·intro w' hSw;have c1:=rI hSw.2;go_simp;try with_reducible rfl
 refine zv 5 rfl ?_;refine zv 6 rfl ?_;refine zv 7 rfl ?_;refine zv 8 rfl ?_;refine zx 9 rfl (v:=?_) ?_ ?_;rotate_left
 ·intro w' hSw;have c1:=rI hSw.2;go_simp;try with_reducible rfl
 refine zv 10 rfl ?_;refine zx 11 rfl (v:=?_) ?_ ?_;rotate_left
 ·intro w' hSw;have c1:=AH hSw.1;go_simp;try with_reducible rfl
 refine zr 12 rfl (fun K hK=>?_);go_simp
 with_reducible refine (HLV.out _).mono ?_
 rintro e w' ⟨rfl,rfl⟩;go_wp2_with fail;refine hK.out _ _ ⟨HK2.out,HS2.out⟩ fun _=>?_;clear hK K
 try simp only[Act.put,zu]
 refine zv 13 rfl ?_;refine zv 14 rfl ?_;refine zv 15 rfl ?_;refine zv 16 rfl ?_;refine zx 17 rfl (v:=?_) ?_ ?_;rotate_left
 ·intro w' hSw;have c1:=sP hSw.2;go_simp;try with_reducible rfl
 refine zv 18 rfl ?_;refine zv 19 rfl ?_;refine zv 20 rfl ?_;refine zv 21 rfl ?_;refine zv 22 rfl ?_;refine zx 23 rfl (v:=?_) ?_ ?_;rotate_left
 ·intro w' hSw;have c1:=sK hSw.2;go_simp;try with_reducible rfl
 refine zv 24 rfl ?_;refine zv 25 rfl ?_;refine zx 26 rfl (v:=?_) ?_ ?_;rotate_left
 ·intro w' hSw;have c1:=AH hSw.1;go_simp;try with_reducible rfl
 refine zv 27 rfl ?_;refine zv 28 rfl ?_;refine zv 29 rfl ?_;refine zd ?_ _;go_wp2_with fail;go_ret;exact⟨rfl,HT0.out.b.trans (HB2.out.mono zo)⟩
theorem JT (h:Nat) (r:List Int) (l:Int) (sp1:Option Addr) (n c1:Nat) (sp2:Option Addr) (m c2:Nat) (w:World) (hr:H16 r) (hh:h≤6) (hl:0≤l) (hl2:l<lvN h) (hn:n=68) (hm:m=h) :
 Calls Tryz.prog 67 #[.agg (pkA (h:Int) r),.agg (siA l (.slice sp1 n c1) (.slice sp2 m c2))] w fun e w'=>e=.returned (.bool true)∧Below w.heap.size w w':=by
 have iJ:=zh hr;have HV:Hid (eI (h:Int)=true):=by show _=_;unfold eI;simp;omega
 have HLV:=zh (fun w'=>eM h w' hh);have q1:decide (0≤l)=true:=by simp;omega
 have q2:decide (l<lvN h)=true:=by simp;omega
 have q3:((n:Int) == 68)=true:=by simp;omega
 have q4:((m:Int) == (h:Int))=true:=by simp;omega
 clear hl hl2 hn hm hr;have HT:=zh (PsBox.new w (h:Int) r l (.slice sp1 n c1) (.slice sp2 m c2))
 go_enter Tryz.func67,Tryz.ntmps67
 go_wp2_with fail;generalize hw0:World.alloc (World.alloc w _) _=w0;have HT0:Hid (PsBox w (h:Int) r l (.slice sp1 n c1) (.slice sp2 m c2) w0):=by rw[←hw0];exact HT.out
 clear hw0 HT;have hs0:w.heap.size+2≤w0.heap.size:=Nat.le_of_eq HT0.out.z.symm;have HVC:=zh (fun w'=>(show Calls Tryz.prog 106 #[.agg (pkL (h:Int) r).toArray] w' fun e w''=>e=.returned (.bool (eI (h:Int)))∧Below w'.heap.size w' w'' from iN (h:Int) r w'));refine wp_region_held_drew (S:=fun w'=>w'.heap[w.heap.size]? = some (.cells (pkA (h:Int) r) 44 (0,0))∧w'.heap[w.heap.size+1]? = some (.cells (siA l (.slice sp1 n c1) (.slice sp2 m c2)) 48 (0,0))) (by kernel_rfl) ⟨HT0.out.k,HT0.out.s⟩ (fun hHeld=>?_);refine' zk 0 rfl (v:=_) (yieldsIf_load_mid (by rfl) _ _ rfl _ _ rfl _ _ ?hS0n190 Tryz.underlying44 rfl (jJ iJ.out)) ?rest0n190
 case hS0n190 =>
  intro w' hSw;exact bC hSw.1
 try simp only[Act.put,zu]
 refine zr 1 rfl (fun K hK=>?_);go_simp
 with_reducible refine (HVC.out _).mono ?_
 rintro e w2 ⟨rfl,hb⟩;rw[HV.out];have HB2:Hid (Bw w0 w2):=(Below.refl _ _).drew.trans hb;clear hb;have HK2:Hid (Ah w2 w.heap.size (pkA (h:Int) r) 44):=(HB2.out.block _ zo).trans HT0.out.k;have HS2:Hid (Ah w2 (w.heap.size+1) (siA l (.slice sp1 n c1) (.slice sp2 m c2)) 48):=(HB2.out.block _ zo).trans HT0.out.s;go_wp2_with fail;refine hK.out _ _ ⟨HK2.out,HS2.out⟩ fun _=>?_;clear hK K
 try simp only[Act.put,zu]
 refine zv 2 rfl ?_;refine zv 3 rfl ?_;refine zx 4 rfl (v:=?_) ?_ ?_;rotate_left
 ·intro w' hSw;have c1:=rI hSw.2;go_simp;try with_reducible rfl
 refine zv 5 rfl ?_;refine zv 6 rfl ?_;refine zv 7 rfl ?_;refine zv 8 rfl ?_;refine zx 9 rfl (v:=?_) ?_ ?_;rotate_left
 ·intro w' hSw;have c1:=rI hSw.2;go_simp;try with_reducible rfl
 refine zv 10 rfl ?_;refine zx 11 rfl (v:=?_) ?_ ?_;rotate_left
 ·intro w' hSw;have c1:=AH hSw.1;go_simp;try with_reducible rfl
 refine zr 12 rfl (fun K hK=>?_);go_simp
 with_reducible refine (HLV.out _).mono ?_
 rintro e w' ⟨rfl,rfl⟩;go_wp2_with fail;refine hK.out _ _ ⟨HK2.out,HS2.out⟩ fun _=>?_;clear hK K
 try simp only[Act.put,zu]
 refine zv 13 rfl ?_;refine zv 14 rfl ?_;refine zv 15 rfl ?_;refine zv 16 rfl ?_;refine zx 17 rfl (v:=?_) ?_ ?_;rotate_left
 ·intro w' hSw;have c1:=sP hSw.2;go_simp;try with_reducible rfl
 refine zv 18 rfl ?_;refine zv 19 rfl ?_;refine zv 20 rfl ?_;refine zv 21 rfl ?_;refine zv 22 rfl ?_;refine zx 23 rfl (v:=?_) ?_ ?_;rotate_left
 ·intro w' hSw;have c1:=sK hSw.2;go_simp;try with_reducible rfl
 refine zv 24 rfl ?_;refine zv 25 rfl ?_;refine zx 26 rfl (v:=?_) ?_ ?_;rotate_left
 ·intro w' hSw;have c1:=AH hSw.1;go_simp;try with_reducible rfl
 refine zv 27 rfl ?_;refine zv 28 rfl ?_;refine zv 29 rfl ?_;refine zd ?_ _;go_wp2_with fail;go_ret;exact⟨rfl,HT0.out.b.trans (HB2.out.mono zo)⟩
theorem FU (h:Int) (r:List Int) (l:Int) (sp1:Option Addr) (n c1:Nat) (sp2:Option Addr) (m c2:Nat) (w:World) (hr:H16 r) (hv:eI h=false) :
 Calls Tryz.prog 45 #[.agg (pkA h r),.agg (siA l (.slice sp1 n c1) (.slice sp2 m c2))] w fun e w'=>e=.returned (.bool false)∧Below w.heap.size w w':=by
 have iJ:=zh hr;have HV:=zh hv;clear hv;clear hr;have HT:=zh (PsBox.new w h r l (.slice sp1 n c1) (.slice sp2 m c2));have HIP:=zh (dS (h:=h) iJ.out)
 go_enter Tryz.func45,Tryz.ntmps45
 go_wp2_with (generalize hw0:World.alloc (World.alloc w _) _=w0;have HT0:Hid (PsBox w h r l (.slice sp1 n c1) (.slice sp2 m c2) w0):=(by rw[←hw0];exact HT.out);clear hw0 HT;refine wpList_load_row rfl 44 _ rfl w.heap.size rfl 44 _ (0,0) _ HT0.out.k Tryz.underlying44 rfl HIP.out ?_)
 have hs0:w.heap.size+2≤w0.heap.size:=Nat.le_of_eq HT0.out.z.symm;refine (fY h r w0).mono ?_;rintro e w2 ⟨rfl,hb⟩;rw[HV.out];have HB2:=zh hb;clear hb;have HK2:Hid (Ah w2 w.heap.size (pkA h r) 44):=(HB2.out.block _ zo).trans HT0.out.k;have HS2:Hid (Ah w2 (w.heap.size+1) (siA l (.slice sp1 n c1) (.slice sp2 m c2)) 48):=(HB2.out.block _ zo).trans HT0.out.s;have k1:=AH HK2.out;have k2:=rI HS2.out;have k3:=sP HS2.out;have k4:=sK HS2.out;go_wp2_with fail;go_ret;exact⟨rfl,HT0.out.b.trans (HB2.out.mono zo)⟩
theorem FT (h:Nat) (r:List Int) (l:Int) (sp1:Option Addr) (n c1:Nat) (sp2:Option Addr) (m c2:Nat) (w:World) (hr:H16 r) (hh:h≤6) (hl:l<0) :
 Calls Tryz.prog 45 #[.agg (pkA (h:Int) r),.agg (siA l (.slice sp1 n c1) (.slice sp2 m c2))] w fun e w'=>e=.returned (.bool false)∧Below w.heap.size w w':=by
 have iJ:=zh hr;have HV:Hid (eI (h:Int)=true):=by show _=_;unfold eI;simp;omega
 have q1:decide (0≤l)=false:=by simp;omega
 clear hl hr;have HT:=zh (PsBox.new w (h:Int) r l (.slice sp1 n c1) (.slice sp2 m c2));have HIP:=zh (dS (h:=(h:Int)) iJ.out)
 go_enter Tryz.func45,Tryz.ntmps45
 go_wp2_with (generalize hw0:World.alloc (World.alloc w _) _=w0;have HT0:Hid (PsBox w (h:Int) r l (.slice sp1 n c1) (.slice sp2 m c2) w0):=(by rw[←hw0];exact HT.out);clear hw0 HT;refine wpList_load_row rfl 44 _ rfl w.heap.size rfl 44 _ (0,0) _ HT0.out.k Tryz.underlying44 rfl HIP.out ?_)
 have hs0:w.heap.size+2≤w0.heap.size:=Nat.le_of_eq HT0.out.z.symm;refine (fY (h:Int) r w0).mono ?_;rintro e w2 ⟨rfl,hb⟩;rw[HV.out];have HB2:=zh hb;clear hb;have HK2:Hid (Ah w2 w.heap.size (pkA (h:Int) r) 44):=(HB2.out.block _ zo).trans HT0.out.k;have HS2:Hid (Ah w2 (w.heap.size+1) (siA l (.slice sp1 n c1) (.slice sp2 m c2)) 48):=(HB2.out.block _ zo).trans HT0.out.s;have k1:=AH HK2.out;have k2:=rI HS2.out;have k3:=sP HS2.out;have k4:=sK HS2.out;go_wp2_with fail;go_ret;exact⟨rfl,HT0.out.b.trans (HB2.out.mono zo)⟩
theorem FS (h:Nat) (r:List Int) (l:Int) (sp1:Option Addr) (n c1:Nat) (sp2:Option Addr) (m c2:Nat) (w:World) (hr:H16 r) (hh:h≤6) (hl:0≤l) (hl2:lvN h≤l) :
 Calls Tryz.prog 45 #[.agg (pkA (h:Int) r),.agg (siA l (.slice sp1 n c1) (.slice sp2 m c2))] w fun e w'=>e=.returned (.bool false)∧Below w.heap.size w w':=by
 have iJ:=zh hr;have HV:Hid (eI (h:Int)=true):=by show _=_;unfold eI;simp;omega
 have q1:decide (0≤l)=true:=by simp;omega
 have q2:decide (l<lvN h)=false:=by simp;omega
 clear hl hl2 hr;have HT:=zh (PsBox.new w (h:Int) r l (.slice sp1 n c1) (.slice sp2 m c2));have HIP:=zh (dS (h:=(h:Int)) iJ.out)
 go_enter Tryz.func45,Tryz.ntmps45
 go_wp2_with (generalize hw0:World.alloc (World.alloc w _) _=w0;have HT0:Hid (PsBox w (h:Int) r l (.slice sp1 n c1) (.slice sp2 m c2) w0):=(by rw[←hw0];exact HT.out);clear hw0 HT;refine wpList_load_row rfl 44 _ rfl w.heap.size rfl 44 _ (0,0) _ HT0.out.k Tryz.underlying44 rfl HIP.out ?_)
 have hs0:w.heap.size+2≤w0.heap.size:=Nat.le_of_eq HT0.out.z.symm;refine (fY (h:Int) r w0).mono ?_;rintro e w2 ⟨rfl,hb⟩;rw[HV.out];have HB2:=zh hb;clear hb;have HK2:Hid (Ah w2 w.heap.size (pkA (h:Int) r) 44):=(HB2.out.block _ zo).trans HT0.out.k;have HS2:Hid (Ah w2 (w.heap.size+1) (siA l (.slice sp1 n c1) (.slice sp2 m c2)) 48):=(HB2.out.block _ zo).trans HT0.out.s;have k1:=AH HK2.out;have k2:=rI HS2.out;have k3:=sP HS2.out;have k4:=sK HS2.out;have hc:h=0∨h=1∨h=2∨h=3∨h=4∨h=5∨h=6:=by omega
 clear hh;rcases hc with rfl | rfl | rfl | rfl | rfl | rfl | rfl
 ·have e5:lvN 0=1:=rfl;have q5:decide (l<1)=false:=by rw[←e5];exact q2
  clear e5 q2;go_wp2_with fail;go_ret;exact⟨rfl,HT0.out.b.trans (HB2.out.mono zo)⟩
 ·have e5:lvN 1=2:=rfl;have q5:decide (l<2)=false:=by rw[←e5];exact q2
  clear e5 q2;go_wp2_with fail;go_ret;exact⟨rfl,HT0.out.b.trans (HB2.out.mono zo)⟩
 ·have e5:lvN 2=4:=rfl;have q5:decide (l<4)=false:=by rw[←e5];exact q2
  clear e5 q2;go_wp2_with fail;go_ret;exact⟨rfl,HT0.out.b.trans (HB2.out.mono zo)⟩
 ·have e5:lvN 3=8:=rfl;have q5:decide (l<8)=false:=by rw[←e5];exact q2
  clear e5 q2;go_wp2_with fail;go_ret;exact⟨rfl,HT0.out.b.trans (HB2.out.mono zo)⟩
 ·have e5:lvN 4=16:=rfl;have q5:decide (l<16)=false:=by rw[←e5];exact q2
  clear e5 q2;go_wp2_with fail;go_ret;exact⟨rfl,HT0.out.b.trans (HB2.out.mono zo)⟩
 ·have e5:lvN 5=32:=rfl;have q5:decide (l<32)=false:=by rw[←e5];exact q2
  clear e5 q2;go_wp2_with fail;go_ret;exact⟨rfl,HT0.out.b.trans (HB2.out.mono zo)⟩
 ·have e5:lvN 6=64:=rfl;have q5:decide (l<64)=false:=by rw[←e5];exact q2
  clear e5 q2;go_wp2_with fail;go_ret;exact⟨rfl,HT0.out.b.trans (HB2.out.mono zo)⟩
theorem FR (h:Nat) (r:List Int) (l:Int) (sp1:Option Addr) (n c1:Nat) (sp2:Option Addr) (m c2:Nat) (w:World) (hr:H16 r) (hh:h≤6) (hl:0≤l) (hl2:l<lvN h) (hn:n≠68) :
 Calls Tryz.prog 45 #[.agg (pkA (h:Int) r),.agg (siA l (.slice sp1 n c1) (.slice sp2 m c2))] w fun e w'=>e=.returned (.bool false)∧Below w.heap.size w w':=by
 have iJ:=zh hr;have HV:Hid (eI (h:Int)=true):=by show _=_;unfold eI;simp;omega
 have q1:decide (0≤l)=true:=by simp;omega
 have q2:decide (l<lvN h)=true:=by simp;omega
 have q3:((n:Int) == 68)=false:=by simp;omega
 clear hl hl2 hn hr;have HT:=zh (PsBox.new w (h:Int) r l (.slice sp1 n c1) (.slice sp2 m c2));have HIP:=zh (dS (h:=(h:Int)) iJ.out)
 go_enter Tryz.func45,Tryz.ntmps45
 go_wp2_with (generalize hw0:World.alloc (World.alloc w _) _=w0;have HT0:Hid (PsBox w (h:Int) r l (.slice sp1 n c1) (.slice sp2 m c2) w0):=(by rw[←hw0];exact HT.out);clear hw0 HT;refine wpList_load_row rfl 44 _ rfl w.heap.size rfl 44 _ (0,0) _ HT0.out.k Tryz.underlying44 rfl HIP.out ?_)
 have hs0:w.heap.size+2≤w0.heap.size:=Nat.le_of_eq HT0.out.z.symm;refine (fY (h:Int) r w0).mono ?_;rintro e w2 ⟨rfl,hb⟩;rw[HV.out];have HB2:=zh hb;clear hb;have HK2:Hid (Ah w2 w.heap.size (pkA (h:Int) r) 44):=(HB2.out.block _ zo).trans HT0.out.k;have HS2:Hid (Ah w2 (w.heap.size+1) (siA l (.slice sp1 n c1) (.slice sp2 m c2)) 48):=(HB2.out.block _ zo).trans HT0.out.s;have k1:=AH HK2.out;have k2:=rI HS2.out;have k3:=sP HS2.out;have k4:=sK HS2.out;have hc:h=0∨h=1∨h=2∨h=3∨h=4∨h=5∨h=6:=by omega
 clear hh;rcases hc with rfl | rfl | rfl | rfl | rfl | rfl | rfl
 ·have e5:lvN 0=1:=rfl;have q5:decide (l<1)=true:=by rw[←e5];exact q2
  clear e5 q2;go_wp2_with fail;go_ret;exact⟨rfl,HT0.out.b.trans (HB2.out.mono zo)⟩
 ·have e5:lvN 1=2:=rfl;have q5:decide (l<2)=true:=by rw[←e5];exact q2
  clear e5 q2;go_wp2_with fail;go_ret;exact⟨rfl,HT0.out.b.trans (HB2.out.mono zo)⟩
 ·have e5:lvN 2=4:=rfl;have q5:decide (l<4)=true:=by rw[←e5];exact q2
  clear e5 q2;go_wp2_with fail;go_ret;exact⟨rfl,HT0.out.b.trans (HB2.out.mono zo)⟩
 ·have e5:lvN 3=8:=rfl;have q5:decide (l<8)=true:=by rw[←e5];exact q2
  clear e5 q2;go_wp2_with fail;go_ret;exact⟨rfl,HT0.out.b.trans (HB2.out.mono zo)⟩
 ·have e5:lvN 4=16:=rfl;have q5:decide (l<16)=true:=by rw[←e5];exact q2
  clear e5 q2;go_wp2_with fail;go_ret;exact⟨rfl,HT0.out.b.trans (HB2.out.mono zo)⟩
 ·have e5:lvN 5=32:=rfl;have q5:decide (l<32)=true:=by rw[←e5];exact q2
  clear e5 q2;go_wp2_with fail;go_ret;exact⟨rfl,HT0.out.b.trans (HB2.out.mono zo)⟩
 ·have e5:lvN 6=64:=rfl;have q5:decide (l<64)=true:=by rw[←e5];exact q2
  clear e5 q2;go_wp2_with fail;go_ret;exact⟨rfl,HT0.out.b.trans (HB2.out.mono zo)⟩
end Go.Proofs.YtaeobegaodhpcaaGreatDoor
