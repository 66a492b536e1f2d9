/-
  Keys of many one-time keys: the walk of Sign where it signs (condition: the table of constants reads as it is laid).
-/
import Derived.Test.YtaeobegaodhpcaaGreatDoorZip
import Derived.Test.YtaeobegaodhpcaaGreatDoorQ10
set_option maxRecDepth 100000
set_option maxHeartbeats 8000000
namespace Go.Proofs.YtaeobegaodhpcaaGreatDoor
open Go.RowKit Go.Proofs.YtaeobegaodhpcaaGreatDoor.One
theorem bC {w:World} {g:Nat} {L:List Value} {t:TypeId} {fr:Nat × Nat} (hg:w.heap[g]? = some (.cells L.toArray t fr)):w.rangeAt g 0 L:=fun j v hv=>by rw[Nat.zero_add];exact aG hg hv
theorem jI {x:List Int} {h n:Int} (hx:H16 x):(Tryz.prog.info? 52).map (·.size)=some (sgL x h n).length:=by rw[show (sgL x h n).length=18 by simp[sgL,hx.1]];exact SV
theorem qS (l:Int) (c p:Value):(Tryz.prog.info? 48).map (·.size)=some (siL l c p).length:=LU
theorem UF (x:List Int) (h leaf:Nat) (d:List Int) (w:World) (hs:H16 x) (hd:D32 d) (hh:h≤6) (hl:leaf<2 ^ h) (hk:KayIn w) (hk0:4<w.heap.size) :
 Calls Tryz.prog 57 #[.agg (sgA x h leaf),.agg (dgA d)] w fun e w'=>∃ spc capc gp,e=.returned (.tuple #[.agg (sgA x h (leaf+1)),.agg (siA leaf (.slice spc 68 capc) (.slice (some ⟨gp,0,none⟩) h h)),.int .i64 0]) ∧
  OwnHv w' w.heap.size (.slice spc 68 capc) (jA x leaf d)∧OwnHv w' w.heap.size (.slice (some ⟨gp,0,none⟩) h h) (eP x h leaf)∧Below w.heap.size w w':=by
 have HS:=zh hs;have eR:=zh hs;have HD:=zh hd;have HK:=zh hk;have h64:leaf≤64:=by have:2 ^ h≤2 ^ 6:=Nat.pow_le_pow_right zo hh;omega
 have HL:=zh hl;have HV:Hid (eI (h:Int)=true):=by show _=_;unfold eI;simp;omega
 have hn1:decide ((leaf:Int) ≥ lvN h)=false:=by simp;unfold lvN;omega
 have HIX:=zh (bS hs);have HID:=zh (DV hd);clear hs hd hk hl;have HT:=zh (SnBox.new w x h leaf d)
 go_enter Tryz.func57,Tryz.ntmps57
 generalize (sgA x (h:Int) (leaf:Int))=SA at *
 go_upto_region 1 with (fail)
 generalize hw0:World.alloc (World.alloc (World.alloc (World.alloc w _) _) _) _=w0;have HT0:Hid (SnBox w x h leaf d w0):=by rw[←hw0];exact HT.out
 clear hw0 HT;have hs0:w.heap.size+4≤w0.heap.size:=Nat.le_of_eq HT0.out.k.symm;have c16:=IK HS.out HT0.out.s;have c17:=AW HS.out HT0.out.s;go_wp2_with fail;refine (dO h w0).mono ?_;rintro e w' ⟨rfl,rfl⟩;rw[HV.out];have hn0:decide ((leaf:Int)<0)=false:=by simp
 go_wp2_with fail;have HLV:=zh (fun w'=>eM h w' hh);refine wp_region_held_drew (S:=fun w'=>w'.cell? ⟨w.heap.size,16,none⟩=some (.int .i64 (h:Int))∧w'.cell? ⟨w.heap.size,17,none⟩=some (.int .i64 (leaf:Int))) (by kernel_rfl) ⟨c16,c17⟩ (fun hHeld=>?_);refine zv 0 rfl ?_;refine zx 1 rfl (v:=?_) ?_ ?_;rotate_left
 ·intro w' hSw;have c1:=hSw.2;go_simp;try with_reducible rfl
 refine zv 2 rfl ?_;refine zx 3 rfl (v:=?_) ?_ ?_;rotate_left
 ·intro w' hSw;have c1:=hSw.1;go_simp;try with_reducible rfl
 refine zr 4 rfl (fun K hK=>?_);go_simp
 with_reducible refine (HLV.out _).mono ?_
 rintro e w' ⟨rfl,rfl⟩;go_wp2_with fail;refine hK.out _ _ ⟨c16,c17⟩ fun _=>?_;clear hK K
 try simp only[Act.put,zu]
 refine zv 5 rfl ?_;refine zv 6 rfl ?_;refine zd ?_ _;clear hn0 hn1 c16 c17;go_wp2_with fail;generalize hw1:World.drew w0=w1;have sN:Hid (Ah w1 w.heap.size (sgA x h leaf) 52):=by rw[←hw1];exact HT0.out.s
 have HDw1:Hid (Ah w1 (w.heap.size+1) (dgA d) 77):=by rw[←hw1];exact HT0.out.d
 have HYw1:Hid (Ah w1 (w.heap.size+1+1) (sgA bQ 0 0) 52):=by rw[←hw1];exact HT0.out.y
 have HZw1:Hid (Ah w1 (w.heap.size+1+1+1) (siA 0 aH aH) 48):=by rw[←hw1];exact HT0.out.z
 have HBw1:Hid (Bw w w1):=by rw[←hw1];exact HT0.out.b.drew
 have hsw1:w.heap.size+4≤w1.heap.size:=by rw[←hw1];exact hs0
 clear hw1 HT0 hs0;have HC7:=zh (fun w' (hb:Below w.heap.size w w') (hz:4<w'.heap.size)=>(show Calls Tryz.prog 93 #[.agg (x.map (Value.int .u8)).toArray,.int .i64 (leaf:Int),.agg (d.map (Value.int .u8)).toArray] w' fun e w''=>∃ sp cap,e=.returned (.slice sp 68 cap)∧OwnHv w'' w'.heap.size (.slice sp 68 cap) (jA x leaf d)∧Below w'.heap.size w' w'' from PC x leaf d w' eR.out HD.out (HK.out.below hb hk0) hz));have HC9:=zh (fun w' (hb:Below w.heap.size w w') (hz:4<w'.heap.size)=>(show Calls Tryz.prog 94 #[.agg (sgL x h leaf).toArray] w' fun e w''=>∃ g,e=.returned (.slice (some ⟨g,0,none⟩) h h)∧OwnHv w'' w'.heap.size (.slice (some ⟨g,0,none⟩) h h) (eP x h leaf)∧Below w'.heap.size w' w'' from PU x h leaf w' eR.out hh HL.out (HK.out.below hb hk0) hz));refine wp_region_held_drew (S:=fun w'=>w'.heap[w.heap.size]? = some (.cells (sgA x h leaf) 52 (0,0))∧w'.heap[w.heap.size+1]? = some (.cells (dgA d) 77 (0,0))) (by kernel_rfl) ⟨sN.out,HDw1.out⟩ (fun hHeld=>?_);refine zv 0 rfl ?_;refine zx 1 rfl (v:=?_) ?_ ?_;rotate_left
 ·intro w' hSw;have c1:=AW eR.out hSw.1;go_simp;try with_reducible rfl
 refine zv 2 rfl ?_;refine' zk 3 rfl (v:=_) (yieldsIf_load_mid (by rfl) _ _ rfl _ _ rfl _ _ ?hS3n22 Tryz.underlying42 rfl HIX.out) ?rest3n22
 case hS3n22 =>
  intro w' hSw;exact YG hSw.1
 try simp only[Act.put,zu]
 refine zv 4 rfl ?_;refine zx 5 rfl (v:=?_) ?_ ?_;rotate_left
 ·intro w' hSw;have c1:=AW eR.out hSw.1;go_simp;try with_reducible rfl
 refine' zk 6 rfl (v:=_) (yieldsIf_load_mid (by rfl) _ _ rfl _ _ rfl _ _ ?hS6n25 Tryz.underlying77 rfl HID.out) ?rest6n25
 case hS6n25 =>
  intro w' hSw;exact bC hSw.2
 try simp only[Act.put,zu]
 refine' zk 8 rfl (v:=_) (yieldsIf_load_mid (by rfl) _ _ rfl _ _ rfl _ _ ?hS8n26 Tryz.underlying52 rfl (jI eR.out)) ?rest8n26
 case hS8n26 =>
  intro w' hSw;exact bC hSw.1
 try simp only[Act.put,zu]
 exact zT (p:=∀ (spc:Option Addr) (capc gp gs:Nat) (w4:World),_→wpAnyH Tryz.prog _ _ _ _ _ _ _ w4) (fun T1=>by
  refine zs 7 11 rfl (fun K hK=>?_) rfl (fun K hK=>?_)
  ·go_simp
   with_reducible refine (HC7.out _ HBw1.out.drew (by have:=HBw1.out.drew.size;omega)).mono ?_
   rintro e w2 ⟨spc,capc,rfl,ho,hb⟩;have IF:Hid (Bw w1 w2):=(Below.refl _ _).drew.trans hb;have HCw2:Hid (OwnHv w2 w.heap.size (.slice spc 68 capc) (jA x leaf d)):=ho.base (by show w.heap.size≤w1.heap.size;omega);clear ho hb;have YH:Hid (Ah w2 w.heap.size (sgA x h leaf) 52):=(IF.out.block _ zo).trans sN.out;have YN:Hid (Ah w2 (w.heap.size+1) (dgA d) 77):=(IF.out.block _ zo).trans HDw1.out;have HYw2:Hid (Ah w2 (w.heap.size+1+1) (sgA bQ 0 0) 52):=(IF.out.block _ zo).trans HYw1.out;have HZw2:Hid (Ah w2 (w.heap.size+1+1+1) (siA 0 aH aH) 48):=(IF.out.block _ zo).trans HZw1.out;have YO:Hid (Bw w w2):=HBw1.out.trans (IF.out.mono zo);have hsw2:w.heap.size+4≤w2.heap.size:=by have:=IF.out.size;omega
   go_wp2_with fail;refine hK.out _ _ ⟨YH.out,YN.out⟩ fun _=>?_;clear hK K
   try simp only[Act.put,zu]
   refine zs 9 11 rfl (fun K hK=>?_) rfl (fun K hK=>?_)
   ·go_simp
    with_reducible refine (HC9.out _ YO.out zo).mono ?_
    rintro e w3 ⟨gp,rfl,ho,hb⟩;have qY:Hid (Bw w2 w3):=hb;have HPw3:Hid (OwnHv w3 w.heap.size (.slice (some ⟨gp,0,none⟩) h h) (eP x h leaf)):=ho.base zo;clear ho hb;have TL:Hid (Ah w3 w.heap.size (sgA x h leaf) 52):=(qY.out.block _ zo).trans YH.out;have TO:Hid (Ah w3 (w.heap.size+1) (dgA d) 77):=(qY.out.block _ zo).trans YN.out;have aAm:Hid (Ah w3 (w.heap.size+1+1) (sgA bQ 0 0) 52):=(qY.out.block _ zo).trans HYw2.out;have aAj:Hid (Ah w3 (w.heap.size+1+1+1) (siA 0 aH aH) 48):=(qY.out.block _ zo).trans HZw2.out;have aBp:=zh (HCw2.out.below qY.out);have XY:Hid (Bw w w3):=YO.out.trans (qY.out.mono zo);have hsw3:w.heap.size+4≤w3.heap.size:=by have:=qY.out.size;omega
    go_wp2_with fail;refine hK.out _ _ ⟨TL.out,TO.out⟩ fun _=>?_;clear hK K
    try simp only[Act.put,zu]
    refine zv 10 rfl ?_;refine zr 11 rfl (fun K hK=>?_);have HO:=zh (heap_alloc_new w3 (.cells (siA 0 aH aH) 48));have HQ:Hid (Below w3.heap.size w3 ((w3.alloc (.cells (siA 0 aH aH) 48)))):=(aA w3 _);have HN:=zh (aF w3 (.cells (siA 0 aH aH) 48));go_simp;generalize hw:World.alloc w3 _=w4;obtain⟨gs,hgs⟩:∃ gs,gs=w3.heap.size:=⟨_,rfl⟩;rw[←hgs];have OI:Hid (Ah w4 gs (siA 0 aH aH) 48):=by rw[hgs,←hw];exact HO.out
    have oC:Hid (Bw w3 w4):=by rw[←hw];exact HQ.out
    have hgw4:gs<w4.heap.size:=by rw[hgs,←hw];exact Nat.lt_of_lt_of_eq (Nat.lt_succ_self _) HN.out.symm
    have hgb:w.heap.size+4≤gs:=by omega
    clear hw HO HQ HN hgs;have OG:Hid (Ah w4 w.heap.size (sgA x h leaf) 52):=(oC.out.block _ zo).trans TL.out;have OJ:Hid (Ah w4 (w.heap.size+1) (dgA d) 77):=(oC.out.block _ zo).trans TO.out;have WZ:Hid (Ah w4 (w.heap.size+1+1) (sgA bQ 0 0) 52):=(oC.out.block _ zo).trans aAm.out;have WY:Hid (Ah w4 (w.heap.size+1+1+1) (siA 0 aH aH) 48):=(oC.out.block _ zo).trans aAj.out;have XV:=zh (aBp.out.below oC.out);have XI:=zh (HPw3.out.below oC.out);have XX:Hid (Bw w w4):=XY.out.trans (oC.out.mono zo);have hsw4:w.heap.size+4≤w4.heap.size:=by have:=oC.out.size;omega
    refine hK.out _ _ ⟨OG.out,OJ.out⟩ fun _=>?_;clear hK K
    try simp only[Act.put,zu]
    exact T1 spc capc gp gs w4 (And.intro OI (And.intro OG (And.intro OJ (And.intro WZ (And.intro WY (And.intro XV (And.intro XI (And.intro XX (And.intro hsw4 (And.intro hgw4 hgb))))))))))
   ·have HO:=zh (heap_alloc_new w2 (.cells (siA 0 aH aH) 48));have HQ:Hid (Below w2.heap.size w2 ((w2.alloc (.cells (siA 0 aH aH) 48)))):=(aA w2 _);have HN:=zh (aF w2 (.cells (siA 0 aH aH) 48));go_simp;generalize hw:World.alloc w2 _=w3;obtain⟨gs,hgs⟩:∃ gs,gs=w2.heap.size:=⟨_,rfl⟩;rw[←hgs];have HGw3:Hid (Ah w3 gs (siA 0 aH aH) 48):=by rw[hgs,←hw];exact HO.out
    have qY:Hid (Bw w2 w3):=by rw[←hw];exact HQ.out
    have hgw3:gs<w3.heap.size:=by rw[hgs,←hw];exact Nat.lt_of_lt_of_eq (Nat.lt_succ_self _) HN.out.symm
    have hgb:w.heap.size+4≤gs:=by omega
    clear hw HO HQ HN hgs;have TL:Hid (Ah w3 w.heap.size (sgA x h leaf) 52):=(qY.out.block _ zo).trans YH.out;have TO:Hid (Ah w3 (w.heap.size+1) (dgA d) 77):=(qY.out.block _ zo).trans YN.out;have aAm:Hid (Ah w3 (w.heap.size+1+1) (sgA bQ 0 0) 52):=(qY.out.block _ zo).trans HYw2.out;have aAj:Hid (Ah w3 (w.heap.size+1+1+1) (siA 0 aH aH) 48):=(qY.out.block _ zo).trans HZw2.out;have aBp:=zh (HCw2.out.below qY.out);have XY:Hid (Bw w w3):=YO.out.trans (qY.out.mono zo);have hsw3:w.heap.size+4≤w3.heap.size:=by have:=qY.out.size;omega
    refine hK.out _ _ ⟨TL.out,TO.out⟩ fun _=>?_;clear hK K
    try simp only[Act.put,zu]
    refine zr 9 rfl (fun K hK=>?_);go_simp
    with_reducible refine (HC9.out _ XY.out zo).mono ?_
    rintro e w4 ⟨gp,rfl,ho,hb⟩;have oC:Hid (Bw w3 w4):=hb;have XI:Hid (OwnHv w4 w.heap.size (.slice (some ⟨gp,0,none⟩) h h) (eP x h leaf)):=ho.base zo;clear ho hb;have OG:Hid (Ah w4 w.heap.size (sgA x h leaf) 52):=(oC.out.block _ zo).trans TL.out;have OJ:Hid (Ah w4 (w.heap.size+1) (dgA d) 77):=(oC.out.block _ zo).trans TO.out;have WZ:Hid (Ah w4 (w.heap.size+1+1) (sgA bQ 0 0) 52):=(oC.out.block _ zo).trans aAm.out;have WY:Hid (Ah w4 (w.heap.size+1+1+1) (siA 0 aH aH) 48):=(oC.out.block _ zo).trans aAj.out;have XV:=zh (aBp.out.below oC.out);have OI:Hid (Ah w4 gs (siA 0 aH aH) 48):=(oC.out.block _ zo).trans HGw3.out;have XX:Hid (Bw w w4):=XY.out.trans (oC.out.mono zo);have hsw4:w.heap.size+4≤w4.heap.size:=by have:=oC.out.size;omega
    have hgw4:gs<w4.heap.size:=by have:=oC.out.size;omega
    go_wp2_with fail;refine hK.out _ _ ⟨OG.out,OJ.out⟩ fun _=>?_;clear hK K
    try simp only[Act.put,zu]
    refine zv 10 rfl ?_;exact T1 spc capc gp gs w4 (And.intro OI (And.intro OG (And.intro OJ (And.intro WZ (And.intro WY (And.intro XV (And.intro XI (And.intro XX (And.intro hsw4 (And.intro hgw4 hgb))))))))))
  ·have HO:=zh (heap_alloc_new w1 (.cells (siA 0 aH aH) 48));have HQ:Hid (Below w1.heap.size w1 (World.drew (w1.alloc (.cells (siA 0 aH aH) 48)))):=(aA w1 _).drew;have HN:=zh (aF w1 (.cells (siA 0 aH aH) 48));go_simp;generalize hw:World.drew (World.alloc w1 _)=w2;obtain⟨gs,hgs⟩:∃ gs,gs=w1.heap.size:=⟨_,rfl⟩;rw[←hgs];have HGw2:Hid (Ah w2 gs (siA 0 aH aH) 48):=by rw[hgs,←hw];exact HO.out
   have IF:Hid (Bw w1 w2):=by rw[←hw];exact HQ.out
   have hgw2:gs<w2.heap.size:=by rw[hgs,←hw];exact Nat.lt_of_lt_of_eq (Nat.lt_succ_self _) HN.out.symm
   have hgb:w.heap.size+4≤gs:=by omega
   clear hw HO HQ HN hgs;have YH:Hid (Ah w2 w.heap.size (sgA x h leaf) 52):=(IF.out.block _ zo).trans sN.out;have YN:Hid (Ah w2 (w.heap.size+1) (dgA d) 77):=(IF.out.block _ zo).trans HDw1.out;have HYw2:Hid (Ah w2 (w.heap.size+1+1) (sgA bQ 0 0) 52):=(IF.out.block _ zo).trans HYw1.out;have HZw2:Hid (Ah w2 (w.heap.size+1+1+1) (siA 0 aH aH) 48):=(IF.out.block _ zo).trans HZw1.out;have YO:Hid (Bw w w2):=HBw1.out.trans (IF.out.mono zo);have hsw2:w.heap.size+4≤w2.heap.size:=by have:=IF.out.size;omega
   refine hK.out _ _ ⟨YH.out,YN.out⟩ fun _=>?_;clear hK K
   try simp only[Act.put,zu]
   refine zr 7 rfl (fun K hK=>?_);go_simp
   with_reducible refine (HC7.out _ YO.out zo).mono ?_
   rintro e w3 ⟨spc,capc,rfl,ho,hb⟩;have qY:Hid (Bw w2 w3):=hb;have aBp:Hid (OwnHv w3 w.heap.size (.slice spc 68 capc) (jA x leaf d)):=ho.base zo;clear ho hb;have TL:Hid (Ah w3 w.heap.size (sgA x h leaf) 52):=(qY.out.block _ zo).trans YH.out;have TO:Hid (Ah w3 (w.heap.size+1) (dgA d) 77):=(qY.out.block _ zo).trans YN.out;have aAm:Hid (Ah w3 (w.heap.size+1+1) (sgA bQ 0 0) 52):=(qY.out.block _ zo).trans HYw2.out;have aAj:Hid (Ah w3 (w.heap.size+1+1+1) (siA 0 aH aH) 48):=(qY.out.block _ zo).trans HZw2.out;have HGw3:Hid (Ah w3 gs (siA 0 aH aH) 48):=(qY.out.block _ zo).trans HGw2.out;have XY:Hid (Bw w w3):=YO.out.trans (qY.out.mono zo);have hsw3:w.heap.size+4≤w3.heap.size:=by have:=qY.out.size;omega
   have hgw3:gs<w3.heap.size:=by have:=qY.out.size;omega
   go_wp2_with fail;refine hK.out _ _ ⟨TL.out,TO.out⟩ fun _=>?_;clear hK K
   try simp only[Act.put,zu]
   refine zr 9 rfl (fun K hK=>?_);go_simp
   with_reducible refine (HC9.out _ XY.out zo).mono ?_
   rintro e w4 ⟨gp,rfl,ho,hb⟩;have oC:Hid (Bw w3 w4):=hb;have XI:Hid (OwnHv w4 w.heap.size (.slice (some ⟨gp,0,none⟩) h h) (eP x h leaf)):=ho.base zo;clear ho hb;have OG:Hid (Ah w4 w.heap.size (sgA x h leaf) 52):=(oC.out.block _ zo).trans TL.out;have OJ:Hid (Ah w4 (w.heap.size+1) (dgA d) 77):=(oC.out.block _ zo).trans TO.out;have WZ:Hid (Ah w4 (w.heap.size+1+1) (sgA bQ 0 0) 52):=(oC.out.block _ zo).trans aAm.out;have WY:Hid (Ah w4 (w.heap.size+1+1+1) (siA 0 aH aH) 48):=(oC.out.block _ zo).trans aAj.out;have XV:=zh (aBp.out.below oC.out);have OI:Hid (Ah w4 gs (siA 0 aH aH) 48):=(oC.out.block _ zo).trans HGw3.out;have XX:Hid (Bw w w4):=XY.out.trans (oC.out.mono zo);have hsw4:w.heap.size+4≤w4.heap.size:=by have:=oC.out.size;omega
   have hgw4:gs<w4.heap.size:=by have:=oC.out.size;omega
   go_wp2_with fail;refine hK.out _ _ ⟨OG.out,OJ.out⟩ fun _=>?_;clear hK K
   try simp only[Act.put,zu]
   refine zv 10 rfl ?_;exact T1 spc capc gp gs w4 (And.intro OI (And.intro OG (And.intro OJ (And.intro WZ (And.intro WY (And.intro XV (And.intro XI (And.intro XX (And.intro hsw4 (And.intro hgw4 hgb))))))))))) (by
  intro spc capc gp gs w4 ⟨OI,OG,OJ,WZ,WY,XV,XI,XX,hsw4,hgw4,hgb⟩;refine zr 12 rfl (fun K hK=>?_);rw[if_pos (by rfl)];refine wp_store_row 48 _ _ rfl gs (siA leaf (.slice spc 68 capc) (.slice (some ⟨gp,0,none⟩) h h)) rfl rfl 48 _ OI.out (aL _ _ _) rfl (cO _ _ _ _ _ _ _) ?_;generalize hw:World.setRow w4 _ _=wy;have HGy:Hid (Ah wy gs (siA leaf (.slice spc 68 capc) (.slice (some ⟨gp,0,none⟩) h h)) 48):=by rw[←hw];exact setRow_heap _ _ _ _ _ _ OI.out
  have HSy:Hid (Ah wy w.heap.size (sgA x h leaf) 52):=by rw[←hw];exact (setRow_other _ _ _ _ zo).trans OG.out
  have HDy:Hid (Ah wy (w.heap.size+1) (dgA d) 77):=by rw[←hw];exact (setRow_other _ _ _ _ zo).trans OJ.out
  have HYy:Hid (Ah wy (w.heap.size+1+1) (sgA bQ 0 0) 52):=by rw[←hw];exact (setRow_other _ _ _ _ zo).trans WZ.out
  have HZy:Hid (Ah wy (w.heap.size+1+1+1) (siA 0 aH aH) 48):=by rw[←hw];exact (setRow_other _ _ _ _ zo).trans WY.out
  have HCy:Hid (OwnHv wy w.heap.size (.slice spc 68 capc) (jA x leaf d)):=by rw[←hw];exact XV.out.setRow OI.out iD _
  have HPy:Hid (OwnHv wy w.heap.size (.slice (some ⟨gp,0,none⟩) h h) (eP x h leaf)):=by rw[←hw];exact XI.out.setRow OI.out iD _
  have HBy:Hid (Bw w wy):=by rw[←hw];exact below_setRow XX.out zo _
  clear hw;refine hK.out _ _ ⟨HSy.out,HDy.out⟩ fun _=>?_;clear hK K
  try simp only[Act.put,zu]
  refine zd ?_ _;have c17:=AW eR.out HSy.out;have f17:=frozen_of_row _ _ 17 _ _ HSy.out;go_wp2_with fail;clear c17 f17;generalize hw:World.setCell wy _ _=wv;have HSv:Hid (wv.heap[w.heap.size]? = some (.cells (sgA x h (leaf+1)) 52 (0,0))):=by show _=_;rw[←hw,heap_setCell_same _ _ _ _ _ _ HSy.out,KB eR.out]
  have HGv:Hid (wv.heap[gs]? = some (.cells (siA leaf (.slice spc 68 capc) (.slice (some ⟨gp,0,none⟩) h h)) 48 (0,0))):=by rw[←hw];exact (heap_setCell_other _ _ _ _ (by show gs≠w.heap.size;omega)).trans HGy.out
  have HY:Hid (wv.heap[w.heap.size+1+1]? = some (.cells (sgA bQ 0 0) 52 (0,0))):=by rw[←hw];exact (heap_setCell_other _ _ _ _ (by show w.heap.size+1+1≠w.heap.size;omega)).trans HYy.out
  have HZ:Hid (wv.heap[w.heap.size+1+1+1]? = some (.cells (siA 0 aH aH) 48 (0,0))):=by rw[←hw];exact (heap_setCell_other _ _ _ _ (by show w.heap.size+1+1+1≠w.heap.size;omega)).trans HZy.out
  have HCv:Hid (OwnHv wv w.heap.size (.slice spc 68 capc) (jA x leaf d)):=by rw[←hw];exact HCy.out.setCell HSy.out yV _ _
  have HPv:Hid (OwnHv wv w.heap.size (.slice (some ⟨gp,0,none⟩) h h) (eP x h leaf)):=by rw[←hw];exact HPy.out.setCell HSy.out yV _ _
  have HBv:Hid (Below w.heap.size w wv):=by rw[←hw];exact HBy.out.setCell (by show w.heap.size≤w.heap.size;omega) _
  clear hw;refine wp_region_held_drew (S:=fun w'=>w'.heap[w.heap.size]? = some (.cells (sgA x h (leaf+1)) 52 (0,0))∧w'.heap[gs]? = some (.cells (siA leaf (.slice spc 68 capc) (.slice (some ⟨gp,0,none⟩) h h)) 48 (0,0))) (by kernel_rfl) ⟨HSv.out,HGv.out⟩ (fun hHeld=>?_);refine' zk 0 rfl (v:=_) (yieldsIf_load_mid (by rfl) _ _ rfl _ _ rfl _ _ ?hS0n8 Tryz.underlying52 rfl (jI eR.out)) ?rest0n8
  case hS0n8 =>
   intro w' hSw;exact bC hSw.1
  try simp only[Act.put,zu]
  refine' zk 1 rfl (v:=_) (yieldsIf_load_mid (by rfl) _ _ rfl _ _ rfl _ _ ?hS1n9 Tryz.underlying48 rfl (qS leaf (.slice spc 68 capc) (.slice (some ⟨gp,0,none⟩) h h))) ?rest1n9
  case hS1n9 =>
   intro w' hSw;exact bC (L:=siL leaf (.slice spc 68 capc) (.slice (some ⟨gp,0,none⟩) h h)) hSw.2
  try simp only[Act.put,zu]
  refine zr 2 rfl (fun K hK=>?_);rw[if_pos (by rfl)];refine wp_store_row 52 _ _ rfl (w.heap.size+1+1) (sgA x h (leaf+1)) rfl rfl 52 _ HY.out (aV eR.out) (by rw[dD aN,dD eR.out]) (dR _ _ _) ?_;generalize hw:World.setRow _ _ _=w8;have HY8:Hid (Ah w8 (w.heap.size+1+1) (sgA x h (leaf+1)) 52):=by rw[←hw];exact setRow_heap _ _ _ _ _ _ HY.out
  have HZ8:Hid (Ah w8 (w.heap.size+1+1+1) (siA 0 aH aH) 48):=by rw[←hw];exact (setRow_other _ _ _ _ zo).trans HZ.out
  have HS8:Hid (Ah w8 w.heap.size (sgA x h (leaf+1)) 52):=by rw[←hw];exact (setRow_other _ _ _ _ zo).trans HSv.out
  have HG8:Hid (Ah w8 gs (siA leaf (.slice spc 68 capc) (.slice (some ⟨gp,0,none⟩) h h)) 48):=by rw[←hw];exact (setRow_other _ _ _ _ zo).trans HGv.out
  have HC8:Hid (OwnHv w8 w.heap.size (.slice spc 68 capc) (jA x leaf d)):=by rw[←hw];exact HCv.out.setRow HY.out yV _
  have HP8:Hid (OwnHv w8 w.heap.size (.slice (some ⟨gp,0,none⟩) h h) (eP x h leaf)):=by rw[←hw];exact HPv.out.setRow HY.out yV _
  have HB8:Hid (Bw w w8):=by rw[←hw];exact below_setRow HBv.out.drew zo _
  clear hw
  skip
  refine hK.out _ _ ⟨HS8.out,HG8.out⟩ fun _=>?_;clear hK K
  try simp only[Act.put,zu]
  refine zr 3 rfl (fun K hK=>?_);rw[if_pos (by rfl)];refine wp_store_row 48 _ _ rfl (w.heap.size+1+1+1) (siA leaf (.slice spc 68 capc) (.slice (some ⟨gp,0,none⟩) h h)) rfl rfl 48 _ HZ8.out (aL _ _ _) rfl (cO _ _ _ _ _ _ _) ?_;generalize hw:World.setRow w8 _ _=w9;have HZ9:Hid (Ah w9 (w.heap.size+1+1+1) (siA leaf (.slice spc 68 capc) (.slice (some ⟨gp,0,none⟩) h h)) 48):=by rw[←hw];exact setRow_heap _ _ _ _ _ _ HZ8.out
  have HY9:Hid (Ah w9 (w.heap.size+1+1) (sgA x h (leaf+1)) 52):=by rw[←hw];exact (setRow_other _ _ _ _ zo).trans HY8.out
  have HS9:Hid (Ah w9 w.heap.size (sgA x h (leaf+1)) 52):=by rw[←hw];exact (setRow_other _ _ _ _ zo).trans HS8.out
  have HG9:Hid (Ah w9 gs (siA leaf (.slice spc 68 capc) (.slice (some ⟨gp,0,none⟩) h h)) 48):=by rw[←hw];exact (setRow_other _ _ _ _ zo).trans HG8.out
  have HC9:Hid (OwnHv w9 w.heap.size (.slice spc 68 capc) (jA x leaf d)):=by rw[←hw];exact HC8.out.setRow HZ8.out iD _
  have HP9:Hid (OwnHv w9 w.heap.size (.slice (some ⟨gp,0,none⟩) h h) (eP x h leaf)):=by rw[←hw];exact HP8.out.setRow HZ8.out iD _
  have HB9:Hid (Bw w w9):=by rw[←hw];exact below_setRow HB8.out zo _
  clear hw
  skip
  refine hK.out _ _ ⟨HS9.out,HG9.out⟩ fun _=>?_;clear hK K
  try simp only[Act.put,zu]
  refine zv 4 rfl ?_;refine zd ?_ _;go_wp2_with fail;exact bodyPost_ret (bA (P:=Tryz.prog) rfl _ _ (w.heap.size+1+1) (w.heap.size+1+1+1) 52 48 _ _ (0,0) (0,0) _ _ rfl HY9.out rfl HZ9.out Tryz.underlying52 rfl (aV eR.out) Tryz.underlying48 rfl (aL _ _ _)) rfl ⟨spc,capc,gp,rfl,HC9.out,HP9.out,HB9.out⟩)
theorem jJ {h:Int} {r:List Int} (hr:H16 r):(Tryz.prog.info? 44).map (·.size)=some (pkL h r).length:=by rw[show (pkL h r).length=17 by simp[pkL,hr.1]];exact LV
theorem AH {w:World} {b:Nat} {h:Int} {r:List Int} {fr:Nat × Nat} (hb:w.heap[b]? = some (.cells (pkA h r) 44 fr)):w.cell? ⟨b,0,none⟩=some (.int .i64 h):=aG (L:=pkL h r) hb rfl
theorem pk_r {w:World} {b:Nat} {h:Int} {r:List Int} (hb:w.heap[b]? = some (.cells (pkA h r) 44 (0,0))):w.rangeAt b 1 (r.map (Value.int .u8)):=mZ (pre:=[.int .i64 h]) (post:=[]) hb (by simp[pkL]) rfl
theorem rI {w:World} {b:Nat} {l:Int} {c p:Value} {fr:Nat × Nat} (hb:w.heap[b]? = some (.cells (siA l c p) 48 fr)):w.cell? ⟨b,0,none⟩=some (.int .i64 l):=aG (L:=siL l c p) hb rfl
theorem sP {w:World} {b:Nat} {l:Int} {c p:Value} {fr:Nat × Nat} (hb:w.heap[b]? = some (.cells (siA l c p) 48 fr)):w.cell? ⟨b,1,none⟩=some c:=aG (L:=siL l c p) hb rfl
theorem sK {w:World} {b:Nat} {l:Int} {c p:Value} {fr:Nat × Nat} (hb:w.heap[b]? = some (.cells (siA l c p) 48 fr)):w.cell? ⟨b,2,none⟩=some p:=aG (L:=siL l c p) hb rfl
def mA (h l:Int) (n m:Nat):Bool:=decide ((0≤h∧h≤6)∧0≤l∧l<lvN h.toNat∧n=68∧(m:Int)=h)
theorem iN (h:Int) (r:List Int) (w:World) :
 Calls Tryz.prog 106 #[.agg (pkA h r)] w fun e w'=>e=.returned (.bool (eI h))∧Below w.heap.size w w':=by
 have HR:=zh (heap_alloc_new w (.cells (pkA h r) 44));have HB:=zh (aA w (.cells (pkA h r) 44));have c0:=AH HR.out
 go_enter Tryz.func106,Tryz.ntmps106
 go_wp2_with fail;clear c0;generalize World.alloc w _=w0 at *;refine (dO h w0).mono ?_;rintro e w' ⟨rfl,rfl⟩;go_wp2_with fail;go_ret;exact⟨rfl,HB.out⟩
theorem fY (h:Int) (r:List Int) (w:World) :
 Calls Tryz.prog 14 #[.agg (pkA h r)] w fun e w'=>e=.returned (.bool (eI h))∧Below w.heap.size w w':=by
 have HR:=zh (heap_alloc_new w (.cells (pkA h r) 44));have HB:=zh (aA w (.cells (pkA h r) 44));have c0:=AH HR.out;by_cases h0:0≤h
 ·have hd0:decide (h ≥ 0)=true:=by simp;exact h0
  by_cases h6:h≤6
  ·have hd6:decide (h≤6)=true:=by simp;exact h6
   have HV:Hid (eI h=true):=by show _=_;unfold eI;simp;exact⟨h0,h6⟩
   rw[HV.out]
   go_enter Tryz.func14,Tryz.ntmps14
   go_wp2_with fail;go_ret;exact⟨rfl,HB.out⟩
  ·have hd6:decide (h≤6)=false:=by simp;omega
   have HV:Hid (eI h=false):=by show _=_;unfold eI;simp;omega
   rw[HV.out]
   go_enter Tryz.func14,Tryz.ntmps14
   go_wp2_with fail;go_ret;exact⟨rfl,HB.out⟩
 ·have hd0:decide (h ≥ 0)=false:=by simp;omega
  have HV:Hid (eI h=false):=by show _=_;unfold eI;simp;omega
  rw[HV.out]
  go_enter Tryz.func14,Tryz.ntmps14
  go_wp2_with fail;go_ret;exact⟨rfl,HB.out⟩
structure PsBox (w:World) (h:Int) (r:List Int) (l:Int) (c p:Value) (w0:World):Prop where
 k:w0.heap[w.heap.size]? = some (.cells (pkA h r) 44 (0,0))
 s:w0.heap[w.heap.size+1]? = some (.cells (siA l c p) 48 (0,0))
 b:Below w.heap.size w w0
 z:w0.heap.size=w.heap.size+2
theorem PsBox.new (w:World) (h:Int) (r:List Int) (l:Int) (c p:Value):PsBox w h r l c p ((w.alloc (.cells (pkA h r) 44)).alloc (.cells (siA l c p) 48)) :=
 ⟨(heap_alloc_old _ _ (by simp)).trans (heap_alloc_new w _),by have h:=heap_alloc_new (w.alloc (.cells (pkA h r) 44)) (.cells (siA l c p) 48);rw[World.size_alloc] at h;exact h,((Below.refl _ _).alloc zl _).alloc (by simp) _,by simp⟩
end Go.Proofs.YtaeobegaodhpcaaGreatDoor
