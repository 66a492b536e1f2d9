/-
  The walk of EnvelopeBack (conditions: the arguments read as envelopes and cases; the table of constants reads as it is laid).
-/
import Derived.Test.YtaeobegaodhpcaaGreatDoorZip
import Derived.Test.YtaeobegaodhpcaaGreatDoorQ29
set_option maxRecDepth 100000
set_option maxHeartbeats 8000000
namespace Go.Proofs.YtaeobegaodhpcaaGreatDoor
open Go.RowKit Go.Proofs.YtaeobegaodhpcaaGreatDoor.One
theorem oN (t:ByteArray) (sp:Option Addr) (n cap:Nat) (b:List UInt8) (sq:Option Addr) (m cq:Nat) (l:List Sg) (sp0:Option Addr) (n0 cap0:Nat) (b0:List UInt8) (sc:Option Addr) (nc cc:Nat) (sn:List UInt8) (kk yy:Int) (w:World) (hp:BSrc w w.heap.size sp n cap b) (hpn:sp = none → cap = 0) (hl:SgsIn w w.heap.size sq m cq l) (hln:sq = none → cq = 0) (hp0:BSrc w w.heap.size sp0 n0 cap0 b0) (hp0n:sp0 = none → cap0 = 0) (hn0:n0 ≤ cap0) (hs:BSrc w w.heap.size sc nc cc sn) (hyy:0 ≤ yy ∧ yy < 256) (hk:KayIn w) (hk0:4 < w.heap.size) (h10:P10In w) (h100:1 < w.heap.size) :
 Calls Tryz.prog 4 #[.agg (enA t (.slice sp n cap) (.slice sq m cq)),.agg (caA (.slice sp0 n0 cap0) (.slice sc nc cc) kk yy)] w fun e w'=>e = .returned (.bool true) ∧ Below w.heap.size w w':=by
 have HP:=zh hp;have HPN:=zh hpn;have HL:=zh hl;have HLN:=zh hln;have HP0:=zh hp0;have HP0N:=zh hp0n;have HSN:=zh hs;have HK:=zh hk;have H10:=zh h10;have HY:=zh hyy;have HN0:=zh hn0;have HE:=zh (heap_alloc_new w (.cells (enA t (.slice sp n cap) (.slice sq m cq)) 25));clear hp hpn hl hln hp0 hp0n hs hk hyy hn0 h10
 go_enter Tryz.func4,Tryz.ntmps4
 go_upto_region 1 with fail
 generalize hwz:World.alloc w _ = wz;generalize hw0:World.alloc wz _ = w0;have HEz:Hid (wz.heap[w.heap.size]? = some (.cells (enA t (.slice sp n cap) (.slice sq m cq)) 25 (0,0))):=by rw [← hwz];exact HE.out
 have HBz:Hid (Below w.heap.size w wz):=by rw [← hwz];exact aA _ _
 have hsz:wz.heap.size = w.heap.size + 1:=by rw [← hwz];simp
 have HC0:Hid (w0.heap[w.heap.size + 1]? = some (.cells (caA (.slice sp0 n0 cap0) (.slice sc nc cc) kk yy) 27 (0,0))):=by rw [← hw0,← hsz];exact heap_alloc_new _ _
 have BF:Hid (Below wz.heap.size wz w0):=by rw [← hw0];exact aA _ _
 have hs0:w0.heap.size = w.heap.size + 2:=by rw [← hw0,World.size_alloc,hsz]
 have HE0:Hid (w0.heap[w.heap.size]? = some (.cells (enA t (.slice sp n cap) (.slice sq m cq)) 25 (0,0))):=(BF.out.block _ (by omega)).trans HEz.out;have HB0:Hid (Below w.heap.size w w0):=HBz.out.trans (BF.out.mono (by omega))
 try rw [hsz]
 clear hwz hw0 HE HEz HBz BF hsz;have HCL:=zh (EJ t (.slice sp n cap) sp n cap rfl sq m cq l w0 ((HL.out.below HB0.out (Nat.le_refl _)).below (Below.refl w0.heap.size w0) (by omega)))
 go_upto_region 2 with (refine wpList_load_row rfl 25 _ rfl w.heap.size rfl 25 _ (0,0) _ HE0.out Tryz.underlying25 rfl (aF _ _ _) ?_)
 refine HCL.out.mono ?_;rintro e w1 ⟨bl,rfl,hlt,hb⟩;have HB01:=zh hb;have HB1:Hid (Below w.heap.size w w1):=HB0.out.trans (hb.mono (by omega));clear hb HCL;have hs1:=HB01.out.size
 cases bl
 ·go_wp2_with fail;go_ret;exact ⟨rfl,HB1.out⟩
 have aAn:=zh (hlt rfl);clear hlt;have HE1:Hid (w1.heap[w.heap.size]? = some (.cells (enA t (.slice sp n cap) (.slice sq m cq)) 25 (0,0))):=(HB01.out.block _ (by omega)).trans HE0.out;have HC1:Hid (w1.heap[w.heap.size + 1]? = some (.cells (caA (.slice sp0 n0 cap0) (.slice sc nc cc) kk yy) 27 (0,0))):=(HB01.out.block _ (by omega)).trans HC0.out;clear HE0 HC0 HB01;have HEX:Hid (EvX w1 t sp n cap b sq m cq l):=⟨aAn.out.2.1,aAn.out.1,aAn.out.2.2.1,(HP.out.below HB1.out (Nat.le_refl _)).more HB1.out.size,HPN.out,HL.out.up HB1.out (Nat.le_refl _),HLN.out,fun y hy=>by have:=aAn.out.2.2.2 y hy;omega⟩;obtain ⟨B,hBe⟩:∃ B,B = w1.heap.size:=⟨_,rfl⟩;have qS:Hid (Blks B w1 w1 []):=Blks.start (Below.refl _ _) (Nat.le_of_eq hBe);have HLT:Hid (w.heap.size < B ∧ w.heap.size + 1 < B):=⟨by omega,by omega⟩;have HBe:=zh hBe;have HCM:Hid (∀ w',Below B w1 w' → Calls Tryz.prog 6 #[.agg (caL (.slice sp0 n0 cap0) (.slice sc nc cc) kk yy).toArray] w' (MdX w')):=fun w' hb=>by
  have hbb:Below w.heap.size w w':=HB1.out.trans (hb.mono (by have:=HLT.out;omega));exact (OY n0 cap0 sp0 b0 sc nc cc sn kk yy w' ((HP0.out.below hbb (Nat.le_refl _)).more hbb.size) HP0N.out ((HSN.out.below hbb (Nat.le_refl _)).more hbb.size) HN0.out HY.out).mono fun e w'' hh=>hh.X
 clear hBe
 go_upto_region 3 with fail
 go_cut [17,18,19] (fun s13 s14 s15 wx=>∃ gR,s13 = .slice (some ⟨gR,0,none⟩) 2 2 ∧ s14 = .int .i64 2 ∧ s15 = .int .i64 0 ∧ Hid (EvR wx gR ∧ Below B w1 wx))
 case first =>
  as_aux_lemma =>
   refine wp_region_held_drew (S:=fun w'=>Below B w1 w') (by kernel_rfl) qS.out.b.drew (fun hHeld=>?_);refine' zk 0 rfl (v:=_) (yieldsIf_load_mid (by rfl) _ _ rfl _ _ rfl _ _ ?hS0n1 Tryz.underlying25 rfl (iO _ _ _)) ?rest0n1
   case hS0n1 =>
    intro w' hSw;exact aZ (L:=(enL t (.slice sp n cap) (.slice sq m cq))) ((hSw.block _ HLT.out.1).trans HE1.out)
   try simp only [Act.put,zu]
   refine' zk 1 rfl (v:=_) (yieldsIf_load_mid (by rfl) _ _ rfl _ _ rfl _ _ ?hS1n2 Tryz.underlying27 rfl (YT _ _ _ _)) ?rest1n2
   case hS1n2 =>
    intro w' hSw;exact aZ (L:=(caL (.slice sp0 n0 cap0) (.slice sc nc cc) kk yy)) ((hSw.block _ HLT.out.2).trans HC1.out)
   try simp only [Act.put,zu]
   refine zv 5 rfl ?_;refine zr 2 rfl (fun K hK=>?_);go_simp
   with_reducible refine (HCM.out _ (qS.out.drew).b).mono ?_
   rintro e v1 ⟨⟨t2,a1,n1,c1,b2,a2,n2,c2,l2,rfl,hev⟩,hb⟩;have cD:=zh (qS.out.call ((Below.refl _ _).drew.trans hb));have HEVv1:=zh hev;clear hev;clear hb;go_wp2_with fail;refine hK.out _ _ cD.out.b fun _=>?_;clear hK K;refine zr 3 rfl (fun K hK=>?_);rw [if_pos (by rfl)];refine aV 30 2 [(0,.tmp 14),(1,.tmp 16)] rfl [(0,.agg (enL t (.slice sp n cap) (.slice sq m cq)).toArray),(1,.agg (enL t2 (.slice a1 n1 c1) (.slice a2 n2 c2)).toArray)] rfl _ _ (TC _ _ _ _ _ _ _) ?_;obtain ⟨gR,v2,hg,hw,bO,iF⟩:=cD.out.allocd (.cells ((enL t (.slice sp n cap) (.slice sq m cq)) ++ (enL t2 (.slice a1 n1 c1) (.slice a2 n2 c2))).toArray 25 (0,0));go_simp
   try rw [hg]
   generalize hq:World.alloc v1 _ = q;obtain rfl:v2 = q:=hw.symm.trans hq;clear hg hw hq;have HEVv2:=zh (HEVv1.out.below iF.out);refine hK.out _ _ bO.out.b fun _=>?_;clear hK K;refine zv 4 rfl ?_;refine zd ?_ _;go_wp2_with fail;go_meet;exact ⟨gR,rfl,rfl,rfl,EvR.of (bO.out.at 0 rfl) (HEX.out.below (show Below w1.heap.size w1 v2 from by rw [← HBe.out];exact bO.out.b)) HEVv2.out,bO.out.b⟩
 case rest =>
 obtain ⟨gR,rfl,rfl,rfl,HQ⟩:=hcut;have HBc:Hid (Below w.heap.size w wc):=HB1.out.trans (HQ.out.2.mono (Nat.le_of_lt HLT.out.1));clear qS HCM HEX HE1 HC1 aAn;go_wp2_with fail
 go_loopw [19] (fun i wr=>∃ k:Nat,i = .int .i64 k ∧ k ≤ 2 ∧ Hid (EvR wr gR) ∧ Hid (Below w.heap.size w wr)) (fun i _=>2 - (intOf i).toNat)
 case atStart=>exact ⟨0,rfl,by omega,HQ.out.1,HBc.out⟩
 case round =>
  obtain ⟨k,rfl,hk2,HR,HB⟩:=hrel;by_cases hlt:k < 2
  ·have hd:decide ((k:Int) < 2) = true:=by simp;omega
   obtain ⟨tx,px,nx,cx,bx,qx,mx,dx,lx,hev,hrow⟩:=HR.out.e k hlt;have HEVX:=zh hev;have mG:=zh hrow;clear hev hrow;have p1:(0:Int) ≤ (k:Int):=by omega
   have p2:(k:Int) < (2:Int):=by omega
   have HZS:=zh (heap_alloc_new wr (.cells zEn 25))
   go_upto_region 6 with (first
    | (refine wpList_load_mid rfl 25 _ rfl gR (k * 3) rfl _ _ mG.out Tryz.underlying25 rfl (iO _ _ _) ?_)
    | (refine wpList_store_row rfl 25 _ _ rfl wr.heap.size (enA tx (.slice px nx cx) (.slice qx mx dx)) rfl rfl 25 _ HZS.out (aF _ _ _) rfl (bX _ _ _ _ _ _ _) ?_;rw [aQ];generalize hw4:World.alloc wr _ = w4;have HX4':Hid (w4.heap[wr.heap.size]? = some (.cells (enA tx (.slice px nx cx) (.slice qx mx dx)) 25 (0,0))):=(by rw [← hw4];exact heap_alloc_new _ _);have HBr4:Hid (Below wr.heap.size wr w4):=(by rw [← hw4];exact aA _ _);have hs4:w4.heap.size = wr.heap.size + 1:=(by rw [← hw4];simp);clear hw4 HZS))
   obtain ⟨gX,hgX⟩:∃ gX,gX = wr.heap.size:=⟨_,rfl⟩;have HX4:Hid (w4.heap[gX]? = some (.cells (enA tx (.slice px nx cx) (.slice qx mx dx)) 25 (0,0))):=by rw [hgX];exact HX4'.out
   rw [← hgX];have XN:Hid (EvX w4 tx px nx cx bx qx mx dx lx):=HEVX.out.below HBr4.out;have HR4:Hid (EvR w4 gR):=HR.out.below HBr4.out;have HB4:Hid (Below w.heap.size w w4):=HB.out.trans (HBr4.out.mono HB.out.size);clear HX4' hgX hs4 HEVX mG HR HB HBr4;have HHX:=zh (TJ XN.out.s);have HCE:=zh (AN tx px nx cx bx qx mx dx lx w4 XN.out.tl XN.out.p XN.out.s (HK.out.below HB4.out hk0) (Nat.lt_of_lt_of_le hk0 HB4.out.size) (H10.out.below HB4.out h100) (Nat.lt_of_lt_of_le h100 HB4.out.size))
   go_wp2_with (refine wpList_load_row rfl 25 _ rfl gX rfl 25 _ (0,0) _ HX4.out Tryz.underlying25 rfl (aF _ _ _) ?_)
   refine HCE.out.mono ?_;rintro e w5 ⟨v5,rfl,hv5,hb5⟩;have HV5:=hv5;have HBB5:=zh hb5;have aAq:Hid (EvX w5 tx px nx cx bx qx mx dx lx):=XN.out.below hb5;have HR5:Hid (EvR w5 gR):=HR4.out.below hb5;have HB5:Hid (Below w.heap.size w w5):=HB4.out.trans (hb5.mono HB4.out.size);have HX5:Hid (w5.heap[gX]? = some (.cells (enA tx (.slice px nx cx) (.slice qx mx dx)) 25 (0,0))):=(hb5.block _ (Array.getElem?_eq_some_iff.1 HX4.out).1).trans HX4.out;clear hb5 hv5 HCE HBB5 XN HR4 HB4 HX4
   cases hv:eU tx bx (lx.map pg)
   ·have HEQ:=zh (LD hv);have HCV:=zh (eF tx px nx cx bx qx mx dx lx w5 aAq.out.tl aAq.out.p aAq.out.s (HK.out.below HB5.out hk0) (Nat.lt_of_lt_of_le hk0 HB5.out.size));rw [hv] at HCV;rw [HEQ.out];clear hv HV5 HHX
    go_wp2_with (refine wpList_load_row rfl 25 _ rfl gX rfl 25 _ (0,0) _ HX5.out Tryz.underlying25 rfl (aF _ _ _) ?_)
    refine HCV.out.mono ?_;rintro e w6 ⟨rfl,hb6⟩;have HR6:Hid (EvR w6 gR):=HR5.out.below hb6;have HB6:Hid (Below w.heap.size w w6):=HB5.out.trans (hb6.mono HB5.out.size);clear hb6 HCV;go_wp2_with fail;go_roundw
    case rel=>exact ⟨k + 1,by go_num,by omega,HR6.out,HB6.out⟩
    case measure=>simp [intOf];omega
   ·have HDB:=zh (LL hv HHX.out);obtain ⟨s5,c5,rfl⟩:=aO HV5.out;have HBS:=zh (LY HV5.out);have HCD:=zh (AP s5 (MV tx bx (lx.map pg)).2.length c5 (MV tx bx (lx.map pg)).2 w5 HBS.out (HK.out.below HB5.out hk0) (Nat.lt_of_lt_of_le hk0 HB5.out.size));rw [HDB.out.2] at HCD;have HZ0:=zh HDB.out.1;rw [HZ0.out];clear hv HV5 HBS HHX HDB;generalize (MV tx bx (lx.map pg)).2.length = nE at *;go_wp2_with fail;refine HCD.out.mono ?_;rintro e w6 ⟨sp6,n6,c6,sq6,m6,cq6,l6,rfl,H6,hb6⟩;have HEV6:Hid (EvX w6 tx px nx cx bx qx mx dx lx):=aAq.out.below hb6;have HR6:Hid (EvR w6 gR):=HR5.out.below hb6;have HB6:Hid (Below w.heap.size w w6):=HB5.out.trans (hb6.mono HB5.out.size);have HX6:Hid (w6.heap[gX]? = some (.cells (enA tx (.slice px nx cx) (.slice qx mx dx)) 25 (0,0))):=(hb6.block _ (Array.getElem?_eq_some_iff.1 HX5.out).1).trans HX5.out;clear hb6 HCD aAq HR5 HB5 HX5;have HZS:=zh (heap_alloc_new w6 (.cells zEn 25))
    go_upto_region 11 with (refine wpList_store_row rfl 25 _ _ rfl w6.heap.size (enA tx (.slice sp6 n6 c6) (.slice sq6 m6 cq6)) rfl rfl 25 _ HZS.out (aF _ _ _) rfl (bX _ _ _ _ _ _ _) ?_;rw [aQ];generalize hw7:World.alloc w6 _ = w7;have HY7:Hid (w7.heap[w6.heap.size]? = some (.cells (enA tx (.slice sp6 n6 c6) (.slice sq6 m6 cq6)) 25 (0,0))):=(by rw [← hw7];exact heap_alloc_new _ _);have XC:Hid (Below w6.heap.size w6 w7):=(by rw [← hw7];exact aA _ _);clear hw7 HZS)
    have HEV7:Hid (EvX w7 tx px nx cx bx qx mx dx lx):=HEV6.out.below XC.out;have HR7:Hid (EvR w7 gR):=HR6.out.below XC.out;have HB7:Hid (Below w.heap.size w w7):=HB6.out.trans (XC.out.mono HB6.out.size);have HX7:Hid (w7.heap[gX]? = some (.cells (enA tx (.slice px nx cx) (.slice qx mx dx)) 25 (0,0))):=(XC.out.block _ (Array.getElem?_eq_some_iff.1 HX6.out).1).trans HX6.out;have HCS:=zh (DZ tx px nx cx bx qx mx dx lx sp6 n6 c6 sq6 m6 cq6 l6 w7 HEV7.out.p (LZ H6.out.1 XC.out) HEV7.out.s (H6.out.2.1.up XC.out (Nat.le_refl _)) H6.out.2.2.1.symm H6.out.2.2.2.1 (by have:=HEV7.out.hm;omega));clear HEV6 HR6 HB6 HX6 XC H6
    go_wp2_with (first
     | (refine bW (by rfl)  25 _ rfl gX 0 rfl _ _ (aZ (L:=enL tx (.slice px nx cx) (.slice qx mx dx)) HX7.out) Tryz.underlying25 rfl (iO _ _ _) ?_)
     | (refine bW (by rfl)  25 _ rfl w6.heap.size 0 rfl _ _ (aZ (L:=enL tx (.slice sp6 n6 c6) (.slice sq6 m6 cq6)) HY7.out) Tryz.underlying25 rfl (iO _ _ _) ?_))
    refine HCS.out.mono ?_;rintro e w8 ⟨rfl,hb8⟩;have HR8:Hid (EvR w8 gR):=HR7.out.below hb8;have HB8:Hid (Below w.heap.size w w8):=HB7.out.trans (hb8.mono HB7.out.size);clear hb8 HCS HY7 HX7 HEV7 HR7 HB7;go_wp2_with fail;go_roundw
    case rel=>exact ⟨k + 1,by go_num,by omega,HR8.out,HB8.out⟩
    case measure=>simp [intOf];omega
  ·obtain rfl:k = 2:=by omega
   have hd:decide (((2:Nat):Int) < 2) = false:=by simp
   have hkw:4 < wr.heap.size:=Nat.lt_of_lt_of_le hk0 HB.out.size;have HA:=zh (AW wr (HK.out.below HB.out hk0) hkw);go_wp2_with fail;refine HA.out.mono ?_;rintro e w9 ⟨rfl,hb⟩;have HB9:Hid (Below w.heap.size w w9):=HB.out.trans (hb.mono HB.out.size);clear hb HA;have HRV:=zh (eQ 0 bH w9);have hbp:=QJ;go_wp2_with fail;refine HRV.out.mono ?_;rintro e w10 ⟨rfl,hb⟩;have HB10:Hid (Below w.heap.size w w10):=HB9.out.trans (hb.mono HB9.out.size);clear hb HRV;rw [show dW 0 = true by decide];go_wp2_with fail;go_ret;exact ⟨rfl,HB10.out⟩
end Go.Proofs.YtaeobegaodhpcaaGreatDoor
