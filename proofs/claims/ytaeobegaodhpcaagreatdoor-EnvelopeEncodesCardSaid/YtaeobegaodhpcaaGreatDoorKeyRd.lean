/-
  Keys of many one-time keys: the walk of the reference's Sign.
-/
import Derived.Test.YtaeobegaodhpcaaGreatDoorZip
import Derived.Test.YtaeobegaodhpcaaGreatDoorKeyRc
import Derived.Deep.DeepCutAuto
set_option maxRecDepth 100000
set_option maxHeartbeats 8000000
namespace Go.Proofs.YtaeobegaodhpcaaGreatDoor
open Go.RowKit Go.Proofs.YtaeobegaodhpcaaGreatDoor.One
theorem OwnHv.blockK {w:World} {base:Nat} {v:Value} {l:List (List Int)} (h:OwnHv w base v l):v.ownBlock=none∨∃ g,v.ownBlock=some g∧base≤g∧g<w.heap.size:=by
 obtain⟨_,⟨rfl,_⟩ | ⟨g2,cap,cur,rfl,hb,hg2,_⟩⟩:=h.1
 ·exact .inl rfl
 ·exact .inr ⟨g2,rfl,hb,(Array.getElem?_eq_some_iff.1 hg2).1⟩
theorem OwnHv.keptK {w w':World} {base:Nat} {v:Value} {l:List (List Int)} (h:OwnHv w base v l) {row:Option Nat} (hg:w.grownBy w' row) (hne:v.ownBlock=none∨v.ownBlock≠row):OwnHv w' base v l:=⟨World.ownsRow.kept h.1 hg hne,h.2⟩
theorem KU (x:List Int) (leaf k:Nat):H16 (eG x leaf k):=fR _ _ _
structure RsA (w:World) (x:List Int) (h leaf:Nat) (d:List Int) (spc:Option Addr) (capc gs:Nat) (w1:World):Prop where
 s:w1.heap[w.heap.size]? = some (.cells (sgA x h leaf) 52 (0,0))
 y:w1.heap[w.heap.size+1+1]? = some (.cells (sgA bQ 0 0) 52 (0,0))
 z:w1.heap[w.heap.size+1+1+1]? = some (.cells (siA 0 aH aH) 48 (0,0))
 g:w1.heap[gs]? = some (.cells (siA leaf (.slice spc 68 capc) aH) 48 (0,0))
 c:OwnHv w1 (w.heap.size+4) (.slice spc 68 capc) (jA x leaf d)
 b:Below w.heap.size w w1
 i:w.heap.size+4≤gs∧gs<w1.heap.size
structure RsP (w:World) (x:List Int) (h leaf:Nat) (d:List Int) (spc:Option Addr) (capc gs bp k:Nat) (pv:Value) (w1:World):Prop where
 s:w1.heap[w.heap.size]? = some (.cells (sgA x h leaf) 52 (0,0))
 y:w1.heap[w.heap.size+1+1]? = some (.cells (sgA bQ 0 0) 52 (0,0))
 z:w1.heap[w.heap.size+1+1+1]? = some (.cells (siA 0 aH aH) 48 (0,0))
 g:w1.heap[gs]? = some (.cells (siA leaf (.slice spc 68 capc) pv) 48 (0,0))
 c:OwnHv w1 (w.heap.size+4) (.slice spc 68 capc) (jA x leaf d)
 cb:(Value.slice spc 68 capc).ownBlock=none∨∃ g,(Value.slice spc 68 capc).ownBlock=some g∧g<bp
 p:OwnHv w1 bp pv ((List.range k).map (eG x leaf))
 b:Below w.heap.size w w1
 i:w.heap.size+4≤gs∧gs<w1.heap.size
 m:w.heap.size+4≤bp∧bp≤w1.heap.size
theorem RsP.below {w:World} {x:List Int} {h leaf:Nat} {d:List Int} {spc:Option Addr} {capc gs bp k:Nat} {pv:Value} {w1 w2:World} (r:RsP w x h leaf d spc capc gs bp k pv w1) (hb:Below w1.heap.size w1 w2):RsP w x h leaf d spc capc gs bp k pv w2:=by
 have h1:=r.i;have h2:=hb.size;have h3:=r.m;exact⟨(hb.block _ zo).trans r.s,(hb.block _ zo).trans r.y,(hb.block _ zo).trans r.z,(hb.block _ zo).trans r.g,r.c.below hb,r.cb,r.p.below hb,r.b.trans (hb.mono zo),by omega,by omega⟩
theorem RsP.shape {w:World} {x:List Int} {h leaf:Nat} {d:List Int} {spc:Option Addr} {capc gs bp k:Nat} {pv:Value} {w1:World} (r:RsP w x h leaf d spc capc gs bp k pv w1):∃ sp cap,pv=.slice sp k cap:=by
 obtain⟨sp,cap,e⟩:=aM r.p.1;refine⟨sp,cap,?_⟩;rw[e,List.length_map,List.length_range]
theorem RsP.app {w:World} {x:List Int} {h leaf:Nat} {d:List Int} {spc:Option Addr} {capc gs bp k:Nat} {pv pv':Value} {w1 w2:World} (r:RsP w x h leaf d spc capc gs bp k pv w1) (hb:Below bp w1 w2) (hg:w1.grownBy w2 pv.ownBlock)
 (ho:OwnHv w2 bp pv' ((List.range k).map (eG x leaf)++[eG x leaf k])) :
 (w2.heap[gs]? = some (.cells (siA leaf (.slice spc 68 capc) pv) 48 (0,0)))∧RsP w x h leaf d spc capc gs bp (k+1) pv' (w2.setCell ⟨gs,2,none⟩ pv'):=by
 have hp:=r.p.apart r.g iD;have h1:=r.i;have h2:=hb.size;have h3:=r.m;have hg2:w2.heap[gs]? = some (.cells (siA leaf (.slice spc 68 capc) pv) 48 (0,0)):=by
  refine (hg.block _ r.i.2 (fun e=>?_)).trans r.g;rcases hp with hp | hp
  ·rw[hp] at e;cases e
  ·exact hp e.symm
 have hc:OwnHv w2 (w.heap.size+4) (.slice spc 68 capc) (jA x leaf d):=by
  refine r.c.keptK hg ?_;rcases r.cb with hc | ⟨gc,hc,hlt⟩
  ·exact .inl hc
  ·rcases r.p.blockK with h0 | ⟨gp,h0,h1,h2⟩
   ·rw[hc,h0];exact .inr (by simp)
   ·rw[hc,h0];exact .inr (by intro e;injection e with e;omega)
 refine⟨hg2,(heap_setCell_other _ _ _ _ (by show w.heap.size≠gs;omega)).trans ((hb.block _ zo).trans r.s),(heap_setCell_other _ _ _ _ (by show w.heap.size+1+1≠gs;omega)).trans ((hb.block _ zo).trans r.y),(heap_setCell_other _ _ _ _ (by show w.heap.size+1+1+1≠gs;omega)).trans ((hb.block _ zo).trans r.z),?_,hc.setCell hg2 iD _ _,r.cb,?_,(r.b.trans (hb.mono zo)).setCell (by show w.heap.size≤gs;omega) _,?_,?_⟩
 ·rw[heap_setCell_same _ _ _ _ _ _ hg2];rfl
 ·rw[eJ];exact ho.setCell hg2 iD _ _
 ·simp[World.setCell];omega
 ·simp[World.setCell];omega
theorem KE (x:List Int) (h n:Int) (d:List Int) (w:World) (hs:H16 x) (hv:eI h=false∨n<0) :
 Calls Tryz.prog 33 #[.agg (sgA x h n),.agg (dgA d)] w fun e w'=>e=.returned (.tuple #[.agg (sgA bQ 0 0),.agg (siA 0 aH aH),.int .i64 1])∧Below w.heap.size w w':=by
 have HS:=zh hs;clear hs;have HT:=zh (SnBox.new w x h n d);have hc:h<0∨(0≤h∧6<h)∨(0≤h∧h≤6∧n<0):=by
  rcases hv with hv | hv
  ·unfold eI at hv;have:=of_decide_eq_false hv;omega
  ·omega
 clear hv
 go_enter Tryz.func33,Tryz.ntmps33
 generalize (sgA x h n)=SA at *
 go_upto_region 1 with (fail)
 generalize hw0:World.alloc (World.alloc (World.alloc (World.alloc w _) _) _) _=w0;have HT0:Hid (SnBox w x h n d w0):=by rw[←hw0];exact HT.out
 clear hw0 HT;have hs0:w.heap.size+4≤w0.heap.size:=Nat.le_of_eq HT0.out.k.symm;have c16:=IK HS.out HT0.out.s;have c17:=AW HS.out HT0.out.s;have HY:=zh (HT0.out.y);have HZ:=zh (HT0.out.z);have hbs:=fF;have hbi:=gW;rcases hc with h1 | ⟨h1,h2⟩ | ⟨h1,h2,h3⟩
 ·have q1:decide (h<0)=true:=by simpa using h1
  go_wp2_with (first
   | (refine wpList_store_row rfl 52 _ _ rfl (w.heap.size+1+1) (sgA bQ 0 0) rfl rfl 52 _ HY.out (aV aN) rfl (dR _ _ _) ?_;generalize hw8:World.setRow w0 _ _=w8;have HY8:Hid (Ah w8 (w.heap.size+1+1) (sgA bQ 0 0) 52):=(by rw[←hw8];exact setRow_heap _ _ _ _ _ _ HY.out);have HZ8:Hid (Ah w8 (w.heap.size+1+1+1) (siA 0 aH aH) 48):=(by rw[←hw8];exact (setRow_other _ _ _ _ zo).trans HZ.out);have HB8:Hid (Bw w w8):=(by rw[←hw8];exact below_setRow HT0.out.b zo _);clear hw8)
   | (refine wpList_store_row rfl 48 _ _ rfl (w.heap.size+1+1+1) (siA 0 aH aH) rfl rfl 48 _ HZ8.out (aL _ _ _) rfl (cO _ _ _ _ _ _ _) ?_;generalize hw9:World.setRow w8 _ _=w9;have HZ9:Hid (Ah w9 (w.heap.size+1+1+1) (siA 0 aH aH) 48):=(by rw[←hw9];exact setRow_heap _ _ _ _ _ _ HZ8.out);have HY9:Hid (Ah w9 (w.heap.size+1+1) (sgA bQ 0 0) 52):=(by rw[←hw9];exact (setRow_other _ _ _ _ zo).trans HY8.out);have HB9:Hid (Bw w w9):=(by rw[←hw9];exact below_setRow HB8.out zo _);clear hw9))
  exact bodyPost_ret (bA (P:=Tryz.prog) rfl _ _ (w.heap.size+1+1) (w.heap.size+1+1+1) 52 48 _ _ (0,0) (0,0) _ _ rfl HY9.out rfl HZ9.out Tryz.underlying52 rfl (aV aN) Tryz.underlying48 rfl (aL _ _ _)) rfl ⟨rfl,HB9.out⟩
 ·have q1:decide (h<0)=false:=by simpa using h1
  have q2:decide (h>6)=true:=by simpa using h2
  go_wp2_with (first
   | (refine wpList_store_row rfl 52 _ _ rfl (w.heap.size+1+1) (sgA bQ 0 0) rfl rfl 52 _ HY.out (aV aN) rfl (dR _ _ _) ?_;generalize hw8:World.setRow w0 _ _=w8;have HY8:Hid (Ah w8 (w.heap.size+1+1) (sgA bQ 0 0) 52):=(by rw[←hw8];exact setRow_heap _ _ _ _ _ _ HY.out);have HZ8:Hid (Ah w8 (w.heap.size+1+1+1) (siA 0 aH aH) 48):=(by rw[←hw8];exact (setRow_other _ _ _ _ zo).trans HZ.out);have HB8:Hid (Bw w w8):=(by rw[←hw8];exact below_setRow HT0.out.b zo _);clear hw8)
   | (refine wpList_store_row rfl 48 _ _ rfl (w.heap.size+1+1+1) (siA 0 aH aH) rfl rfl 48 _ HZ8.out (aL _ _ _) rfl (cO _ _ _ _ _ _ _) ?_;generalize hw9:World.setRow w8 _ _=w9;have HZ9:Hid (Ah w9 (w.heap.size+1+1+1) (siA 0 aH aH) 48):=(by rw[←hw9];exact setRow_heap _ _ _ _ _ _ HZ8.out);have HY9:Hid (Ah w9 (w.heap.size+1+1) (sgA bQ 0 0) 52):=(by rw[←hw9];exact (setRow_other _ _ _ _ zo).trans HY8.out);have HB9:Hid (Bw w w9):=(by rw[←hw9];exact below_setRow HB8.out zo _);clear hw9))
  exact bodyPost_ret (bA (P:=Tryz.prog) rfl _ _ (w.heap.size+1+1) (w.heap.size+1+1+1) 52 48 _ _ (0,0) (0,0) _ _ rfl HY9.out rfl HZ9.out Tryz.underlying52 rfl (aV aN) Tryz.underlying48 rfl (aL _ _ _)) rfl ⟨rfl,HB9.out⟩
 ·have q1:decide (h<0)=false:=by simpa using h1
  have q2:decide (h>6)=false:=by simpa using h2
  have q3:decide (n<0)=true:=by simpa using h3
  go_wp2_with (first
   | (refine wpList_store_row rfl 52 _ _ rfl (w.heap.size+1+1) (sgA bQ 0 0) rfl rfl 52 _ HY.out (aV aN) rfl (dR _ _ _) ?_;generalize hw8:World.setRow w0 _ _=w8;have HY8:Hid (Ah w8 (w.heap.size+1+1) (sgA bQ 0 0) 52):=(by rw[←hw8];exact setRow_heap _ _ _ _ _ _ HY.out);have HZ8:Hid (Ah w8 (w.heap.size+1+1+1) (siA 0 aH aH) 48):=(by rw[←hw8];exact (setRow_other _ _ _ _ zo).trans HZ.out);have HB8:Hid (Bw w w8):=(by rw[←hw8];exact below_setRow HT0.out.b zo _);clear hw8)
   | (refine wpList_store_row rfl 48 _ _ rfl (w.heap.size+1+1+1) (siA 0 aH aH) rfl rfl 48 _ HZ8.out (aL _ _ _) rfl (cO _ _ _ _ _ _ _) ?_;generalize hw9:World.setRow w8 _ _=w9;have HZ9:Hid (Ah w9 (w.heap.size+1+1+1) (siA 0 aH aH) 48):=(by rw[←hw9];exact setRow_heap _ _ _ _ _ _ HZ8.out);have HY9:Hid (Ah w9 (w.heap.size+1+1) (sgA bQ 0 0) 52):=(by rw[←hw9];exact (setRow_other _ _ _ _ zo).trans HY8.out);have HB9:Hid (Bw w w9):=(by rw[←hw9];exact below_setRow HB8.out zo _);clear hw9))
  exact bodyPost_ret (bA (P:=Tryz.prog) rfl _ _ (w.heap.size+1+1) (w.heap.size+1+1+1) 52 48 _ _ (0,0) (0,0) _ _ rfl HY9.out rfl HZ9.out Tryz.underlying52 rfl (aV aN) Tryz.underlying48 rfl (aL _ _ _)) rfl ⟨rfl,HB9.out⟩
theorem KF (x:List Int) (h:Nat) (n:Int) (d:List Int) (w:World) (hs:H16 x) (hh:h≤6) (hn:lvN h≤n) :
 Calls Tryz.prog 33 #[.agg (sgA x h n),.agg (dgA d)] w fun e w'=>e=.returned (.tuple #[.agg (sgA bQ 0 0),.agg (siA 0 aH aH),.int .i64 13])∧Below w.heap.size w w':=by
 have HS:=zh hs;clear hs;have HT:=zh (SnBox.new w x h n d);have q1:decide ((h:Int)<0)=false:=by simp
 have q2:decide ((h:Int)>6)=false:=by simp;omega
 have hn2:((2 ^ h:Nat):Int)≤n:=hn;have q3:decide (n<0)=false:=by simp;have:=Int.natCast_nonneg (2 ^ h);omega
 have q4:decide (n ≥ wrap64 (2 ^ h))=true:=by rw[qZ hh];simpa using hn2
 go_enter Tryz.func33,Tryz.ntmps33
 generalize (sgA x (h:Int) n)=SA at *
 go_upto_region 1 with (fail)
 generalize hw0:World.alloc (World.alloc (World.alloc (World.alloc w _) _) _) _=w0;have HT0:Hid (SnBox w x h n d w0):=by rw[←hw0];exact HT.out
 clear hw0 HT;have hs0:w.heap.size+4≤w0.heap.size:=Nat.le_of_eq HT0.out.k.symm;have c16:=IK HS.out HT0.out.s;have c17:=AW HS.out HT0.out.s;clear hn hn2;have HY:=zh (HT0.out.y);have HZ:=zh (HT0.out.z);have hbs:=fF;have hbi:=gW
 go_wp2_with (first
  | (refine wpList_store_row rfl 52 _ _ rfl (w.heap.size+1+1) (sgA bQ 0 0) rfl rfl 52 _ HY.out (aV aN) rfl (dR _ _ _) ?_;generalize hw8:World.setRow w0 _ _=w8;have HY8:Hid (Ah w8 (w.heap.size+1+1) (sgA bQ 0 0) 52):=(by rw[←hw8];exact setRow_heap _ _ _ _ _ _ HY.out);have HZ8:Hid (Ah w8 (w.heap.size+1+1+1) (siA 0 aH aH) 48):=(by rw[←hw8];exact (setRow_other _ _ _ _ zo).trans HZ.out);have HB8:Hid (Bw w w8):=(by rw[←hw8];exact below_setRow HT0.out.b zo _);clear hw8)
  | (refine wpList_store_row rfl 48 _ _ rfl (w.heap.size+1+1+1) (siA 0 aH aH) rfl rfl 48 _ HZ8.out (aL _ _ _) rfl (cO _ _ _ _ _ _ _) ?_;generalize hw9:World.setRow w8 _ _=w9;have HZ9:Hid (Ah w9 (w.heap.size+1+1+1) (siA 0 aH aH) 48):=(by rw[←hw9];exact setRow_heap _ _ _ _ _ _ HZ8.out);have HY9:Hid (Ah w9 (w.heap.size+1+1) (sgA bQ 0 0) 52):=(by rw[←hw9];exact (setRow_other _ _ _ _ zo).trans HY8.out);have HB9:Hid (Bw w w9):=(by rw[←hw9];exact below_setRow HB8.out zo _);clear hw9))
 exact bodyPost_ret (bA (P:=Tryz.prog) rfl _ _ (w.heap.size+1+1) (w.heap.size+1+1+1) 52 48 _ _ (0,0) (0,0) _ _ rfl HY9.out rfl HZ9.out Tryz.underlying52 rfl (aV aN) Tryz.underlying48 rfl (aL _ _ _)) rfl ⟨rfl,HB9.out⟩
theorem PJ (x:List Int) (h leaf:Nat) (d:List Int) (w:World) (hs:H16 x) (hd:D32 d) (hh:h≤6) (hl:leaf<2 ^ h) :
 Calls Tryz.prog 33 #[.agg (sgA x h leaf),.agg (dgA d)] w fun e w'=>∃ spc capc spp capp,e=.returned (.tuple #[.agg (sgA x h (leaf+1)),.agg (siA leaf (.slice spc 68 capc) (.slice spp h capp)),.int .i64 0]) ∧
  OwnHv w' w.heap.size (.slice spc 68 capc) (jA x leaf d)∧OwnHv w' w.heap.size (.slice spp h capp) (eP x h leaf)∧Below w.heap.size w w':=by
 have HS:=zh hs;have eR:=zh hs;have HD:=zh hd;have h64:leaf≤64:=by have:2 ^ h≤2 ^ 6:=Nat.pow_le_pow_right zo hh;omega
 have HL:=zh hl;have q1:decide ((h:Int)<0)=false:=by simp
 have q2:decide ((h:Int)>6)=false:=by simp;omega
 have q3:decide ((leaf:Int)<0)=false:=by simp
 have hl2:(leaf:Int)<((2 ^ h:Nat):Int):=by exact_mod_cast hl
 have q4:decide ((leaf:Int) ≥ wrap64 (2 ^ h))=false:=by rw[qZ hh];exact decide_eq_false zo
 clear hl2;have HIX:=zh (bS hs);have HID:=zh (DV hd);clear hs hd hl;have HT:=zh (SnBox.new w x h leaf d)
 go_enter Tryz.func33,Tryz.ntmps33
 generalize (sgA x (h:Int) (leaf:Int))=SA at *
 go_upto_region 1 with (fail)
 generalize hw0:World.alloc (World.alloc (World.alloc (World.alloc w _) _) _) _=w0;have HT0:Hid (SnBox w x h leaf d w0):=by rw[←hw0];exact HT.out
 clear hw0 HT;have hs0:w.heap.size+4≤w0.heap.size:=Nat.le_of_eq HT0.out.k.symm;have c16:=IK HS.out HT0.out.s;have c17:=AW HS.out HT0.out.s
 go_upto_region 5 with (fail)
 clear q1 q2 q3 q4 c16 c17;have HSv0:=zh (HT0.out.s);have HDv0:=zh (HT0.out.d);have HYv0:=zh (HT0.out.y);have HZv0:=zh (HT0.out.z);have HBv0:=zh (HT0.out.b);clear HT0;generalize w0=v0 at *;have HC7:=zh (fun w'=>(show Calls Tryz.prog 69 #[.agg (x.map (Value.int .u8)).toArray,.int .i64 (leaf:Int),.agg (d.map (Value.int .u8)).toArray] w' fun e w''=>∃ sp cap,e=.returned (.slice sp 68 cap)∧OwnHv w'' w'.heap.size (.slice sp 68 cap) (jA x leaf d)∧Below w'.heap.size w' w'' from KG x leaf d w' eR.out HD.out))
 go_cut [7] (fun s1 wx=>∃ spc capc gs,s1=.pointer (some ⟨gs,0,none⟩)∧Hid (RsA w x h leaf d spc capc gs wx))
 case first =>
  as_aux_lemma =>
   refine wp_region_held_drew (S:=fun w'=>w'.heap[w.heap.size]? = some (.cells (sgA x h leaf) 52 (0,0))∧w'.heap[w.heap.size+1]? = some (.cells (dgA d) 77 (0,0))) (by kernel_rfl) ⟨HSv0.out,HDv0.out⟩ (fun hHeld=>?_);refine zv 0 rfl ?_;refine zx 1 rfl (v:=?_) ?_ ?_;rotate_left
   ·intro w' hSw;have c1:=AW eR.out hSw.1;go_simp;try with_reducible rfl
   refine zv 2 rfl ?_;refine' zk 3 rfl (v:=_) (yieldsIf_load_mid (by rfl) _ _ rfl _ _ rfl _ _ ?hS3n12 Tryz.underlying42 rfl HIX.out) ?rest3n12
   case hS3n12 =>
    intro w' hSw;exact YG hSw.1
   try simp only[Act.put,zu]
   refine zv 4 rfl ?_;refine zx 5 rfl (v:=?_) ?_ ?_;rotate_left
   ·intro w' hSw;have c1:=AW eR.out hSw.1;go_simp;try with_reducible rfl
   refine' zk 6 rfl (v:=_) (yieldsIf_load_mid (by rfl) _ _ rfl _ _ rfl _ _ ?hS6n15 Tryz.underlying77 rfl HID.out) ?rest6n15
   case hS6n15 =>
    intro w' hSw;exact bC hSw.2
   try simp only[Act.put,zu]
   exact zT (p:=∀ (spc:Option Addr) (capc gs:Nat) (v2:World),_→wpAnyH Tryz.prog _ _ _ _ _ _ _ v2) (fun T1=>by
    refine zs 7 9 rfl (fun K hK=>?_) rfl (fun K hK=>?_)
    ·go_simp
     with_reducible refine (HC7.out _).mono ?_
     rintro e v1 ⟨spc,capc,rfl,ho,hb⟩;have qB:Hid (Bw v0 v1):=(Below.refl _ _).drew.trans hb;have HCv1:Hid (OwnHv v1 (w.heap.size+4) (.slice spc 68 capc) (jA x leaf d)):=ho.base (by show w.heap.size+4≤v0.heap.size;omega);clear ho hb;have cA:Hid (Ah v1 w.heap.size (sgA x h leaf) 52):=(qB.out.block _ zo).trans HSv0.out;have aBo:Hid (Ah v1 (w.heap.size+1) (dgA d) 77):=(qB.out.block _ zo).trans HDv0.out;have HYv1:Hid (Ah v1 (w.heap.size+1+1) (sgA bQ 0 0) 52):=(qB.out.block _ zo).trans HYv0.out;have HZv1:Hid (Ah v1 (w.heap.size+1+1+1) (siA 0 aH aH) 48):=(qB.out.block _ zo).trans HZv0.out;have HBv1:Hid (Bw w v1):=HBv0.out.trans (qB.out.mono zo);have hsv1:w.heap.size+4≤v1.heap.size:=by have:=qB.out.size;omega
     go_wp2_with fail;refine hK.out _ _ ⟨cA.out,aBo.out⟩ fun _=>?_;clear hK K
     try simp only[Act.put,zu]
     refine zv 8 rfl ?_;refine zr 9 rfl (fun K hK=>?_);have HO:=zh (heap_alloc_new v1 (.cells (siA 0 aH aH) 48));have HQ:Hid (Below v1.heap.size v1 ((v1.alloc (.cells (siA 0 aH aH) 48)))):=(aA v1 _);have HN:=zh (aF v1 (.cells (siA 0 aH aH) 48));go_simp;generalize hw:World.alloc v1 _=v2;obtain⟨gs,hgs⟩:∃ gs,gs=v1.heap.size:=⟨_,rfl⟩;rw[←hgs];have XT:Hid (Ah v2 gs (siA 0 aH aH) 48):=by rw[hgs,←hw];exact HO.out
     have hU:Hid (Bw v1 v2):=by rw[←hw];exact HQ.out
     have hgv2:gs<v2.heap.size:=by rw[hgs,←hw];exact Nat.lt_of_lt_of_eq (Nat.lt_succ_self _) HN.out.symm
     have hgb:w.heap.size+4≤gs:=by omega
     clear hw HO HQ HN hgs;have bJ:Hid (Ah v2 w.heap.size (sgA x h leaf) 52):=(hU.out.block _ zo).trans cA.out;have XU:Hid (Ah v2 (w.heap.size+1) (dgA d) 77):=(hU.out.block _ zo).trans aBo.out;have aAn:Hid (Ah v2 (w.heap.size+1+1) (sgA bQ 0 0) 52):=(hU.out.block _ zo).trans HYv1.out;have aAk:Hid (Ah v2 (w.heap.size+1+1+1) (siA 0 aH aH) 48):=(hU.out.block _ zo).trans HZv1.out;have aBq:=zh (HCv1.out.below hU.out);have aBs:Hid (Bw w v2):=HBv1.out.trans (hU.out.mono zo);have hsv2:w.heap.size+4≤v2.heap.size:=by have:=hU.out.size;omega
     refine hK.out _ _ ⟨bJ.out,XU.out⟩ fun _=>?_;clear hK K
     try simp only[Act.put,zu]
     exact T1 spc capc gs v2 (And.intro XT (And.intro bJ (And.intro XU (And.intro aAn (And.intro aAk (And.intro aBq (And.intro aBs (And.intro hsv2 (And.intro hgv2 hgb)))))))))
    ·have HO:=zh (heap_alloc_new v0 (.cells (siA 0 aH aH) 48));have HQ:Hid (Below v0.heap.size v0 (World.drew (v0.alloc (.cells (siA 0 aH aH) 48)))):=(aA v0 _).drew;have HN:=zh (aF v0 (.cells (siA 0 aH aH) 48));go_simp;generalize hw:World.drew (World.alloc v0 _)=v1;obtain⟨gs,hgs⟩:∃ gs,gs=v0.heap.size:=⟨_,rfl⟩;rw[←hgs];have HGv1:Hid (Ah v1 gs (siA 0 aH aH) 48):=by rw[hgs,←hw];exact HO.out
     have qB:Hid (Bw v0 v1):=by rw[←hw];exact HQ.out
     have hgv1:gs<v1.heap.size:=by rw[hgs,←hw];exact Nat.lt_of_lt_of_eq (Nat.lt_succ_self _) HN.out.symm
     have hgb:w.heap.size+4≤gs:=by omega
     clear hw HO HQ HN hgs;have cA:Hid (Ah v1 w.heap.size (sgA x h leaf) 52):=(qB.out.block _ zo).trans HSv0.out;have aBo:Hid (Ah v1 (w.heap.size+1) (dgA d) 77):=(qB.out.block _ zo).trans HDv0.out;have HYv1:Hid (Ah v1 (w.heap.size+1+1) (sgA bQ 0 0) 52):=(qB.out.block _ zo).trans HYv0.out;have HZv1:Hid (Ah v1 (w.heap.size+1+1+1) (siA 0 aH aH) 48):=(qB.out.block _ zo).trans HZv0.out;have HBv1:Hid (Bw w v1):=HBv0.out.trans (qB.out.mono zo);have hsv1:w.heap.size+4≤v1.heap.size:=by have:=qB.out.size;omega
     refine hK.out _ _ ⟨cA.out,aBo.out⟩ fun _=>?_;clear hK K
     try simp only[Act.put,zu]
     refine zr 7 rfl (fun K hK=>?_);go_simp
     with_reducible refine (HC7.out _).mono ?_
     rintro e v2 ⟨spc,capc,rfl,ho,hb⟩;have hU:Hid (Bw v1 v2):=hb;have aBq:Hid (OwnHv v2 (w.heap.size+4) (.slice spc 68 capc) (jA x leaf d)):=ho.base zo;clear ho hb;have bJ:Hid (Ah v2 w.heap.size (sgA x h leaf) 52):=(hU.out.block _ zo).trans cA.out;have XU:Hid (Ah v2 (w.heap.size+1) (dgA d) 77):=(hU.out.block _ zo).trans aBo.out;have aAn:Hid (Ah v2 (w.heap.size+1+1) (sgA bQ 0 0) 52):=(hU.out.block _ zo).trans HYv1.out;have aAk:Hid (Ah v2 (w.heap.size+1+1+1) (siA 0 aH aH) 48):=(hU.out.block _ zo).trans HZv1.out;have XT:Hid (Ah v2 gs (siA 0 aH aH) 48):=(hU.out.block _ zo).trans HGv1.out;have aBs:Hid (Bw w v2):=HBv1.out.trans (hU.out.mono zo);have hsv2:w.heap.size+4≤v2.heap.size:=by have:=hU.out.size;omega
     have hgv2:gs<v2.heap.size:=by have:=hU.out.size;omega
     go_wp2_with fail;refine hK.out _ _ ⟨bJ.out,XU.out⟩ fun _=>?_;clear hK K
     try simp only[Act.put,zu]
     refine zv 8 rfl ?_;exact T1 spc capc gs v2 (And.intro XT (And.intro bJ (And.intro XU (And.intro aAn (And.intro aAk (And.intro aBq (And.intro aBs (And.intro hsv2 (And.intro hgv2 hgb)))))))))) (by
    intro spc capc gs v2 ⟨XT,bJ,XU,aAn,aAk,aBq,aBs,hsv2,hgv2,hgb⟩;refine zr 10 rfl (fun K hK=>?_);rw[if_pos (by rfl)];refine wp_store_row 48 _ _ rfl gs (siA leaf (.slice spc 68 capc) aH) rfl rfl 48 _ XT.out (aL _ _ _) rfl (cO _ _ _ _ _ _ _) ?_;generalize hw:World.setRow v2 _ _=wy;have HGy:Hid (Ah wy gs (siA leaf (.slice spc 68 capc) aH) 48):=by rw[←hw];exact setRow_heap _ _ _ _ _ _ XT.out
    have HSy:Hid (Ah wy w.heap.size (sgA x h leaf) 52):=by rw[←hw];exact (setRow_other _ _ _ _ zo).trans bJ.out
    have HDy:Hid (Ah wy (w.heap.size+1) (dgA d) 77):=by rw[←hw];exact (setRow_other _ _ _ _ zo).trans XU.out
    have HYy:Hid (Ah wy (w.heap.size+1+1) (sgA bQ 0 0) 52):=by rw[←hw];exact (setRow_other _ _ _ _ zo).trans aAn.out
    have HZy:Hid (Ah wy (w.heap.size+1+1+1) (siA 0 aH aH) 48):=by rw[←hw];exact (setRow_other _ _ _ _ zo).trans aAk.out
    have HCy:Hid (OwnHv wy (w.heap.size+4) (.slice spc 68 capc) (jA x leaf d)):=by rw[←hw];exact aBq.out.setRow XT.out iD _
    have HBy:Hid (Bw w wy):=by rw[←hw];exact below_setRow aBs.out zo _
    have hgy:gs<wy.heap.size:=by rw[←hw];simp[World.setRow];omega
    clear hw;refine hK.out _ _ ⟨HSy.out,HDy.out⟩ fun _=>?_;clear hK K
    try simp only[Act.put,zu]
    refine zd ?_ _;go_wp2_with fail;go_meet;exact⟨spc,capc,gs,rfl,⟨HSy.out,HYy.out,HZy.out,HGy.out,HCy.out,HBy.out,hgb,hgy⟩⟩)
 case rest =>
 obtain⟨spc,capc,gs,rfl,HA⟩:=hcut;clear HSv0 HDv0 HYv0 HZv0 HBv0 HC7 hs0;have c16:=IK HS.out HA.out.s;have HXR:=zh (YG HA.out.s)
 go_wp2_with (refine wpList_load_mid rfl 42 _ rfl w.heap.size 0 rfl _ _ HXR.out Tryz.underlying42 rfl HIX.out ?_)
 clear c16 HXR;have hia:=HA.out.i;refine (rO x h wc HS.out hh).mono ?_;rintro e w2 ⟨sp,cap,rfl,ho,hb⟩;have HE2:=zh hb;have hsz2:=hb.size;clear hb;have HSL:Hid (RsP w x h leaf d spc capc gs wc.heap.size 0 aH w2):=by
  have hb:=HE2.out;refine⟨(hb.block _ zo).trans HA.out.s,(hb.block _ zo).trans HA.out.y,(hb.block _ zo).trans HA.out.z,(hb.block _ zo).trans HA.out.g,HA.out.c.below hb,?_,OwnHv.nil _ _,HA.out.b.trans (hb.mono zo),by omega,by omega⟩;rcases HA.out.c.blockK with h0 | ⟨g,h0,_,h1⟩
  ·exact .inl h0
  ·exact .inr ⟨g,h0,h1⟩
 have HLW:Hid (OwnHv w2 (w.heap.size+4) (.slice sp (2 ^ h) cap) (mG x h 0)):=ho.base zo;have HLP0:Hid ((Value.slice sp (2 ^ h) cap).ownBlock=none∨(Value.slice sp (2 ^ h) cap).ownBlock≠aH.ownBlock):=by
  rcases ho.blockK with h0 | ⟨g,h0,_⟩
  ·exact .inl h0
  ·exact .inr (by rw[h0];simp[Value.ownBlock,aH])
 have c17:=AW HS.out HSL.out.s;clear ho HE2 HA hia;generalize wc.heap.size=bp at *;go_wp2_with fail;clear c17
 go_loopw [8,9,10] (fun v u i wr=>∃ (k n cap:Nat) (sp:Option Addr) (pv:Value),k≤h∧i=.int .i64 (k:Int)∧u=.int .i64 ((leaf / 2 ^ k:Nat):Int)∧n=2 ^ (h-k)∧v=.slice sp n cap∧Hid (RsP w x h leaf d spc capc gs bp k pv wr)∧Hid (OwnHv wr (w.heap.size+4) (.slice sp n cap) (mG x h k))∧Hid ((Value.slice sp n cap).ownBlock=none∨(Value.slice sp n cap).ownBlock≠pv.ownBlock)) (fun _ _ i _=>h-(intOf i).toNat)
 case atStart=>exact⟨0,2 ^ h,cap,sp,aH,by omega,rfl,by simp,by simp,by simp,HSL.out,HLW.out,HLP0.out⟩
 case round =>
  clear HSL HLW HLP0;obtain⟨k,n,cap,sp,pv,hkh,rfl,rfl,hn,rfl,HR,HLW,HLPV⟩:=hrel;have c16:=IK HS.out HR.out.s;have hri:=HR.out.i;have hrm:=HR.out.m;by_cases hlt:k<h
  ·have hd1:decide ((k:Int)<(h:Int))=true:=by simp;omega
   have hn2:2 ^ (h-k)=2*2 ^ (h-(k+1)):=by rw[show h-k=h-(k+1)+1 by omega,Nat.pow_succ];omega
   have hni:leaf / 2 ^ k<2*2 ^ (h-(k+1)):=by
    rw[←hn2];exact Nat.div_lt_of_lt_mul (by rw[←Nat.pow_add,Nat.add_sub_cancel' hkh];exact HL.out)
   rw[hn2] at hn;have HUP:=zh (SH x hlt);have HLN:=zh (eC x h (k+1));have HLK:=zh (eC x h k);rw[hn2] at HLK;have h64b:2 ^ (h-(k+1))≤64:=rQ hh _;have hmp:0<2 ^ (h-(k+1)):=Nat.pow_pos zo;have HJS:Hid (leaf / 2 ^ (k+1)=leaf / 2 ^ k / 2):=rV leaf k;have HPE:Hid (eG x leaf k=(mG x h k).getD (nb (leaf / 2 ^ k)) []):=by
    show _=_;have e:mG x h k=(List.range (2 ^ (h-k))).map (iR x k):=rfl;have hb:nb (leaf / 2 ^ k)<2 ^ (h-k):=by rw[hn2];exact VK hni
    rw[e,List.getD_eq_getElem?_getD,List.getElem?_map,List.getElem?_range hb];rfl
   have hm2:(2 ^ (h-(k+1)):Nat)=2 ^ (h-(k+1)):=rfl;have HMN:Hid (2 ^ (h-(k+1))=2 ^ (h-(k+1))):=rfl;clear hn2 hm2;obtain⟨m,hm⟩:∃ m,2 ^ (h-(k+1))=m:=⟨_,rfl⟩;have HM:=zh hm;rw[hm] at hn hni HUP HLN HLK h64b hmp;clear hm HMN;obtain⟨i,hi⟩:∃ i,leaf / 2 ^ k=i:=⟨_,rfl⟩;rw[hi] at hni HPE HJS ⊢;clear hi;subst hn;have HV:=zh (HLW.out.hvs HLK.out);obtain⟨sb,so,rfl,hsb,hcc,hrr⟩:=HV.out.cells zo;have hnb:nb i<2*m:=VK hni;have cQ:Hid (H16 (eG x leaf k)):=KU x leaf k;have HYR:Hid (wr.rangeAt sb (so+nb i*16) ((eG x leaf k).map (Value.int .u8))):=by rw[HPE.out];exact hrr (nb i) hnb
   clear hrr HV;have HX1:=xor1 i zo;have p1:(0:Int)≤((nb i:Nat):Int):=by omega
   have p2:((nb i:Nat):Int)<2*(m:Int):=by omega
   have p3:2*(m:Int)≤(cap:Int):=by omega
   have HLP:Hid (k=((List.range k).map (eG x leaf)).length):=by show _=_;simp
   have HIY:=zh (bS cQ.out)
   go_upto_region 11 with (fail)
   clear hd1 c16;refine wp_region_held_drew (S:=fun w'=>w'.rangeAt sb (so+nb i*16) ((eG x leaf k).map (Value.int .u8))) (by kernel_rfl) HYR.out (fun hHeld=>?_);refine zv 0 rfl ?_;refine zv 2 rfl ?_;refine zv 3 rfl ?_;refine zv 4 rfl ?_;refine zv 5 rfl ?_;refine' zk 6 rfl (v:=_) (yieldsIf_load_mid (by rfl) _ _ rfl _ _ rfl _ _ ?hS6n21 Tryz.underlying42 rfl HIY.out) ?rest6n21
   case hS6n21 =>
    intro w' hSw;exact hSw
   try simp only[Act.put,zu]
   exact zT (p:=∀ (w7:World),_→wpAnyH Tryz.prog _ _ _ _ _ _ _ w7) (fun T1=>by
    refine zs 1 7 rfl (fun K hK=>?_) rfl (fun K hK=>?_)
    ·have c2:=sK HR.out.g;go_simp;clear c2;refine hK.out _ _ HYR.out fun _=>?_;clear hK K
     try simp only[Act.put,zu]
     refine zr 7 rfl (fun K hK=>?_);rw[if_pos (by rfl)];refine gP 46 1 [(0,.tmp 63)] rfl [(0,.agg (hvA (eG x leaf k)))] rfl _ _ (gD _ (eG x leaf k) cQ.out) ?_;generalize hw7:World.alloc _ _=w7;have HR7:Hid (w7.rangeAt wr.heap.size 0 ((eG x leaf k).map (Value.int .u8))):=by rw[←hw7];intro j v hv;rw[Nat.zero_add];exact aG (heap_alloc_new _ _) hv
     have HB7:Hid (Below wr.heap.size wr w7):=by rw[←hw7];exact (Below.refl _ _).drew.trans (show Below wr.heap.size (World.drew wr) _ from aA (World.drew wr) _)
     have HQ7:Hid (w7.rangeAt sb (so+nb i*16) ((eG x leaf k).map (Value.int .u8))):=aB HYR.out HB7.out hsb;have HP7:=zh (HR.out.below HB7.out);have HL7:=zh (HLW.out.below HB7.out);have hs7:wr.heap.size≤w7.heap.size:=HB7.out.size;clear hw7;refine hK.out _ _ HQ7.out fun _=>?_;clear hK K
     try simp only[Act.put,zu]
     exact T1 w7 (And.intro HR7 (And.intro HQ7 (And.intro HP7 (And.intro HL7 hs7))))
    ·rw[if_pos (by rfl)];refine gP 46 1 [(0,.tmp 63)] rfl [(0,.agg (hvA (eG x leaf k)))] rfl _ _ (gD _ (eG x leaf k) cQ.out) ?_;generalize hw7:World.alloc _ _=w7;have HR7:Hid (w7.rangeAt wr.heap.size 0 ((eG x leaf k).map (Value.int .u8))):=by rw[←hw7];intro j v hv;rw[Nat.zero_add];exact aG (heap_alloc_new _ _) hv
     have HB7:Hid (Below wr.heap.size wr w7):=by rw[←hw7];exact (Below.refl _ _).drew.trans (show Below wr.heap.size (World.drew wr) _ from aA (World.drew wr) _)
     have HQ7:Hid (w7.rangeAt sb (so+nb i*16) ((eG x leaf k).map (Value.int .u8))):=aB HYR.out HB7.out hsb;have HP7:=zh (HR.out.below HB7.out);have HL7:=zh (HLW.out.below HB7.out);have hs7:wr.heap.size≤w7.heap.size:=HB7.out.size;clear hw7;refine hK.out _ _ HQ7.out fun _=>?_;clear hK K
     try simp only[Act.put,zu]
     refine zr 1 rfl (fun K hK=>?_);have c2:=sK HP7.out.g;go_simp;clear c2;refine hK.out _ _ HQ7.out fun _=>?_;clear hK K
     try simp only[Act.put,zu]
     exact T1 w7 (And.intro HR7 (And.intro HQ7 (And.intro HP7 (And.intro HL7 hs7))))) (by
    intro w7 ⟨HR7,HQ7,HP7,HL7,hs7⟩;refine zr 8 rfl (fun K hK=>?_);rw[if_pos (by rfl)];refine kD (.tmp 58) (.tmp 64) rfl bp pv _ k HLP.out rfl HP7.out.p wr.heap.size (eG x leaf k) rfl HR7.out cQ.out zo zo ?_;intro sp8 cap8 w8 HO8 HB8 HG8;have HAP:=zh (HP7.out.app HB8.out HG8.out HO8.out);have HL8:=zh (HL7.out.keptK HG8.out HLPV.out);have HL9:Hid (OwnHv (w8.setCell ⟨gs,2,none⟩ (.slice sp8 (k+1) cap8)) (w.heap.size+4) (.slice (some ⟨sb,so,none⟩) (2*m) cap) (mG x h k)):=HL8.out.setCell HAP.out.1 iD _ _;have HQ8:Hid (w8.rangeAt sb (so+nb i*16) ((eG x leaf k).map (Value.int .u8))):=by
     obtain⟨b,o,e,_,_,hr⟩:=(HL8.out.hvs HLK.out).cells zo;injection e with e;injection e with e1 e2;subst e1 e2
     rw[HPE.out];exact hr (nb i) hnb
    have HQ9:Hid ((w8.setCell ⟨gs,2,none⟩ (.slice sp8 (k+1) cap8)).rangeAt sb (so+nb i*16) ((eG x leaf k).map (Value.int .u8))):=by
     obtain⟨b,o,e,_,_,hr⟩:=(HL9.out.hvs HLK.out).cells zo;injection e with e;injection e with e1 e2;subst e1 e2
     rw[HPE.out];exact hr (nb i) hnb
    have c2:=sK HAP.out.1;have f2:=frozen_of_row _ _ 2 _ _ HAP.out.1;refine hK.out _ _ HQ8.out fun _=>?_;clear hK K
    try simp only[Act.put,zu]
    refine zv 9 rfl ?_;refine zr 10 rfl (fun K hK=>?_);go_simp;clear c2 f2;have HP9:Hid (RsP w x h leaf d spc capc gs bp (k+1) (.slice sp8 (k+1) cap8) (w8.setCell ⟨gs,2,none⟩ (.slice sp8 (k+1) cap8))):=HAP.out.2;generalize World.setCell w8 _ _=w9 at *;refine hK.out _ _ HQ9.out (fun hHeld=>?_);clear hK K HQ9 HQ8 HL8 HAP HO8 HB8 HG8 HL7 HP7 HQ7 HR7
    try simp only[Act.put,zu]
    refine zd ?_ _;have hi9:=HP9.out.i;have hm9:=HP9.out.m;go_wp2_with fail;refine (KC k (2*m) m (some ⟨sb,so,none⟩) cap (mG x h k) w9 (HL9.out.hvs HLK.out) rfl hmp zo).mono ?_;rintro e w10 ⟨sp10,cap10,rfl,ho,hb⟩;rw[HUP.out] at ho;have HP10:=zh (HP9.out.below hb);have HL10:Hid (OwnHv w10 (w.heap.size+4) (.slice sp10 m cap10) (mG x h (k+1))):=ho.base zo;have HLP10:Hid ((Value.slice sp10 m cap10).ownBlock=none∨(Value.slice sp10 m cap10).ownBlock≠(Value.slice sp8 (k+1) cap8).ownBlock):=by
     rcases ho.blockK with h0 | ⟨g1,h0,h1,_⟩
     ·exact .inl h0
     ·rcases HP9.out.p.blockK with h2 | ⟨g2,h2,_,h3⟩
      ·rw[h0,h2];exact .inr (by simp)
      ·rw[h0,h2];exact .inr (by intro e;injection e with e;omega)
    clear ho hb HP9 HL9 hi9 hm9;go_wp2_with fail;go_roundw
    case rel=>exact⟨k+1,m,cap10,sp10,.slice sp8 (k+1) cap8,by omega,by go_num,by rw[HJS.out];go_num,HM.out.symm,rfl,HP10.out,HL10.out,HLP10.out⟩
    case measure=>simp[intOf];omega)
  ·obtain rfl:k=h:=by omega
   have hd1:decide ((k:Int)<(k:Int))=false:=by simp
   have c17:=AW eR.out HR.out.s;have f17:=frozen_of_row _ _ 17 _ _ HR.out.s;obtain⟨spp,capp,rfl⟩:=HR.out.shape;go_wp2_with fail;clear c17 f17 c16;generalize hw:World.setCell wr _ _=wv;have HSv:Hid (wv.heap[w.heap.size]? = some (.cells (sgA x k (leaf+1)) 52 (0,0))):=by show _=_;rw[←hw,heap_setCell_same _ _ _ _ _ _ HR.out.s,KB eR.out]
   have HGv:Hid (wv.heap[gs]? = some (.cells (siA leaf (.slice spc 68 capc) (.slice spp k capp)) 48 (0,0))):=by rw[←hw];exact (heap_setCell_other _ _ _ _ (by show gs≠w.heap.size;omega)).trans HR.out.g
   have HY:Hid (wv.heap[w.heap.size+1+1]? = some (.cells (sgA bQ 0 0) 52 (0,0))):=by rw[←hw];exact (heap_setCell_other _ _ _ _ (by show w.heap.size+1+1≠w.heap.size;omega)).trans HR.out.y
   have HZ:Hid (wv.heap[w.heap.size+1+1+1]? = some (.cells (siA 0 aH aH) 48 (0,0))):=by rw[←hw];exact (heap_setCell_other _ _ _ _ (by show w.heap.size+1+1+1≠w.heap.size;omega)).trans HR.out.z
   have HCv:Hid (OwnHv wv w.heap.size (.slice spc 68 capc) (jA x leaf d)):=by rw[←hw];exact (HR.out.c.base zo).setCell HR.out.s yV _ _
   have HPv:Hid (OwnHv wv w.heap.size (.slice spp k capp) ((List.range k).map (eG x leaf))):=by rw[←hw];exact (HR.out.p.base zo).setCell HR.out.s yV _ _
   have HBv:Hid (Below w.heap.size w wv):=by rw[←hw];exact HR.out.b.setCell (by show w.heap.size≤w.heap.size;omega) _
   clear hw;refine wp_region_held_drew (S:=fun w'=>w'.heap[w.heap.size]? = some (.cells (sgA x k (leaf+1)) 52 (0,0))∧w'.heap[gs]? = some (.cells (siA leaf (.slice spc 68 capc) (.slice spp k capp)) 48 (0,0))) (by kernel_rfl) ⟨HSv.out,HGv.out⟩ (fun hHeld=>?_);refine' zk 0 rfl (v:=_) (yieldsIf_load_mid (by rfl) _ _ rfl _ _ rfl _ _ ?hS0n24 Tryz.underlying52 rfl (jI eR.out)) ?rest0n24
   case hS0n24 =>
    intro w' hSw;exact bC hSw.1
   try simp only[Act.put,zu]
   refine' zk 1 rfl (v:=_) (yieldsIf_load_mid (by rfl) _ _ rfl _ _ rfl _ _ ?hS1n25 Tryz.underlying48 rfl (qS leaf (.slice spc 68 capc) (.slice spp k capp))) ?rest1n25
   case hS1n25 =>
    intro w' hSw;exact bC (L:=siL leaf (.slice spc 68 capc) (.slice spp k capp)) hSw.2
   try simp only[Act.put,zu]
   refine zr 2 rfl (fun K hK=>?_);rw[if_pos (by rfl)];refine wp_store_row 52 _ _ rfl (w.heap.size+1+1) (sgA x k (leaf+1)) rfl rfl 52 _ HY.out (aV eR.out) (by rw[dD aN,dD eR.out]) (dR _ _ _) ?_;generalize hw:World.setRow _ _ _=w8;have HY8:Hid (Ah w8 (w.heap.size+1+1) (sgA x k (leaf+1)) 52):=by rw[←hw];exact setRow_heap _ _ _ _ _ _ HY.out
   have HZ8:Hid (Ah w8 (w.heap.size+1+1+1) (siA 0 aH aH) 48):=by rw[←hw];exact (setRow_other _ _ _ _ zo).trans HZ.out
   have HS8:Hid (Ah w8 w.heap.size (sgA x k (leaf+1)) 52):=by rw[←hw];exact (setRow_other _ _ _ _ zo).trans HSv.out
   have HG8:Hid (Ah w8 gs (siA leaf (.slice spc 68 capc) (.slice spp k capp)) 48):=by rw[←hw];exact (setRow_other _ _ _ _ zo).trans HGv.out
   have HC8:Hid (OwnHv w8 w.heap.size (.slice spc 68 capc) (jA x leaf d)):=by rw[←hw];exact HCv.out.setRow HY.out yV _
   have HP8:Hid (OwnHv w8 w.heap.size (.slice spp k capp) ((List.range k).map (eG x leaf))):=by rw[←hw];exact HPv.out.setRow HY.out yV _
   have HB8:Hid (Bw w w8):=by rw[←hw];exact below_setRow HBv.out.drew zo _
   clear hw
   skip
   refine hK.out _ _ ⟨HS8.out,HG8.out⟩ fun _=>?_;clear hK K
   try simp only[Act.put,zu]
   refine zr 3 rfl (fun K hK=>?_);rw[if_pos (by rfl)];refine wp_store_row 48 _ _ rfl (w.heap.size+1+1+1) (siA leaf (.slice spc 68 capc) (.slice spp k capp)) rfl rfl 48 _ HZ8.out (aL _ _ _) rfl (cO _ _ _ _ _ _ _) ?_;generalize hw:World.setRow w8 _ _=w9;have HZ9:Hid (Ah w9 (w.heap.size+1+1+1) (siA leaf (.slice spc 68 capc) (.slice spp k capp)) 48):=by rw[←hw];exact setRow_heap _ _ _ _ _ _ HZ8.out
   have HY9:Hid (Ah w9 (w.heap.size+1+1) (sgA x k (leaf+1)) 52):=by rw[←hw];exact (setRow_other _ _ _ _ zo).trans HY8.out
   have HS9:Hid (Ah w9 w.heap.size (sgA x k (leaf+1)) 52):=by rw[←hw];exact (setRow_other _ _ _ _ zo).trans HS8.out
   have HG9:Hid (Ah w9 gs (siA leaf (.slice spc 68 capc) (.slice spp k capp)) 48):=by rw[←hw];exact (setRow_other _ _ _ _ zo).trans HG8.out
   have HC9:Hid (OwnHv w9 w.heap.size (.slice spc 68 capc) (jA x leaf d)):=by rw[←hw];exact HC8.out.setRow HZ8.out iD _
   have HP9:Hid (OwnHv w9 w.heap.size (.slice spp k capp) ((List.range k).map (eG x leaf))):=by rw[←hw];exact HP8.out.setRow HZ8.out iD _
   have HB9:Hid (Bw w w9):=by rw[←hw];exact below_setRow HB8.out zo _
   clear hw
   skip
   refine hK.out _ _ ⟨HS9.out,HG9.out⟩ fun _=>?_;clear hK K
   try simp only[Act.put,zu]
   refine zv 4 rfl ?_;refine zd ?_ _;go_wp2_with fail;exact bodyPost_ret (bA (P:=Tryz.prog) rfl _ _ (w.heap.size+1+1) (w.heap.size+1+1+1) 52 48 _ _ (0,0) (0,0) _ _ rfl HY9.out rfl HZ9.out Tryz.underlying52 rfl (aV eR.out) Tryz.underlying48 rfl (aL _ _ _)) rfl ⟨spc,capc,spp,capp,rfl,HC9.out,HP9.out,HB9.out⟩
end Go.Proofs.YtaeobegaodhpcaaGreatDoor
