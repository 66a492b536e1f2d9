/-
  Keys of many one-time keys: the walk of the reference's Verify (condition: the lists read as halves).
-/
import Derived.Test.YtcligodahogpkaaGreatDoorZip
import Derived.Test.YtcligodahogpkaaGreatDoorKeyV
set_option maxRecDepth 100000
set_option maxHeartbeats 8000000
namespace Go.Proofs.YtcligodahogpkaaGreatDoor
open Go.RowKit Go.Proofs.YtcligodahogpkaaGreatDoor.One
theorem yN (h : Int) (r d : List Int) (l : Int) (sp1 : Option Addr) (n c1 : Nat) (sp2 : Option Addr) (m c2 : Nat) (w : World) (hr : H16 r) (hshp : jC h l n m = false) :
 Calls Tryz.prog 66 #[.agg (pkA h r), .agg (dgA d), .agg (siA l (.slice sp1 n c1) (.slice sp2 m c2))] w fun e w' => e = .returned (.bool false) ∧ Below w.heap.size w w' := by
 have gF := zh hr; have MZ := zh hshp; clear hr hshp
 have HT := zh (VfBox.new w h r d l (.slice sp1 n c1) (.slice sp2 m c2))
 go_enter Tryz.func66, Tryz.ntmps66
 go_upto_region 1 with (fail)
 generalize hw0 : World.alloc (World.alloc (World.alloc w _) _) _ = w0
 have HT0 : Hid (VfBox w h r d l (.slice sp1 n c1) (.slice sp2 m c2) w0) := by rw [← hw0]; exact HT.out
 clear hw0 HT
 have hs0 : w.heap.size + 3 ≤ w0.heap.size := Nat.le_of_eq HT0.out.z.symm
 have k2 := nK HT0.out.s
 have k3 := rX HT0.out.s
 have k4 := oF HT0.out.s
 go_wp2_with (refine wpList_load_row rfl 56 _ rfl w.heap.size rfl 56 _ (0, 0) _ HT0.out.k Tryz.underlying56 rfl (dO gF.out) ?_)
 clear k2 k3 k4
 refine (kM h r l sp1 n c1 sp2 m c2 w0 gF.out).mono ?_
 rintro e w1 ⟨rfl, hb1⟩
 rw [MZ.out]
 have HB1 := zh hb1; clear hb1
 go_wp2_with fail
 go_ret
 exact ⟨rfl, HT0.out.b.trans (HB1.out.mono (by omega))⟩
theorem uV (h : Nat) (r d : List Int) (leaf : Nat) (sp1 : Option Addr) (c1 : Nat) (sp2 : Option Addr) (c2 : Nat) (cl pl : List (List Int)) (w : World) (hr : H16 r) (hd : D32 d) (hh : h ≤ 6) (hl : leaf < 2 ^ h) (hc : HvsIn w w.heap.size sp1 68 c1 cl) (hp : HvsIn w w.heap.size sp2 h c2 pl) :
 Calls Tryz.prog 66 #[.agg (pkA (h : Int) r), .agg (dgA d), .agg (siA (leaf : Int) (.slice sp1 68 c1) (.slice sp2 h c2))] w fun e w' => e = .returned (.bool (decide (lR pl (wW leaf d cl) leaf h = r))) ∧ Below w.heap.size w w' := by
 have gF := zh hr; have HD := zh hd; have HC := zh hc; have HP := zh hp
 have MZ : Hid (jC (h : Int) (leaf : Int) 68 h = true) := by
  show _ = _
  unfold jC
  rw [decide_eq_true]
  refine ⟨by omega, by omega, ?_, rfl, rfl⟩
  unfold lvN; rw [Int.toNat_natCast]; omega
 have h64 : leaf ≤ 64 := by have : 2 ^ h ≤ 2 ^ 6 := Nat.pow_le_pow_right (by omega) hh; omega
 have HIR := zh (bS hr)
 have EM := zh (fE (leaf : Int) d cl)
 have HEQ := zh (fun w' => eqHM (lR pl (wW leaf d cl) leaf h) r (jT (fE _ _ _) leaf h).1 hr.1 w')
 clear hr hd hc hp hl
 have HT := zh (VfBox.new w h r d leaf (.slice sp1 68 c1) (.slice sp2 h c2))
 go_enter Tryz.func66, Tryz.ntmps66
 go_upto_region 1 with (fail)
 generalize hw0 : World.alloc (World.alloc (World.alloc w _) _) _ = w0
 have HT0 : Hid (VfBox w (h : Int) r d (leaf : Int) (.slice sp1 68 c1) (.slice sp2 h c2) w0) := by rw [← hw0]; exact HT.out
 clear hw0 HT
 have hs0 : w.heap.size + 3 ≤ w0.heap.size := Nat.le_of_eq HT0.out.z.symm
 have k2 := nK HT0.out.s
 have k3 := rX HT0.out.s
 have k4 := oF HT0.out.s
 go_wp2_with (refine wpList_load_row rfl 56 _ rfl w.heap.size rfl 56 _ (0, 0) _ HT0.out.k Tryz.underlying56 rfl (dO gF.out) ?_)
 clear k2 k3 k4
 refine (kM (h : Int) r (leaf : Int) sp1 68 c1 sp2 h c2 w0 gF.out).mono ?_
 rintro e w1 ⟨rfl, hb1⟩
 rw [MZ.out]
 have HB1 := zh hb1; clear hb1
 have IL : Hid (w1.heap[w.heap.size + 1 + 1]? = some (.cells (siA leaf (.slice sp1 68 c1) (.slice sp2 h c2)) 60 (0, 0))) := (HB1.out.block _ (by omega)).trans HT0.out.s
 have PX : Hid (w1.heap[w.heap.size + 1]? = some (.cells (dgA d) 43 (0, 0))) := (HB1.out.block _ (by omega)).trans HT0.out.d
 have PW : Hid (w1.heap[w.heap.size]? = some (.cells (pkA h r) 56 (0, 0))) := (HB1.out.block _ (by omega)).trans HT0.out.k
 have AB : Hid (Below w.heap.size w w1) := HT0.out.b.trans (HB1.out.mono (by omega))
 have hs1 := HB1.out.size
 clear HT0 HB1
 have k2 := nK IL.out
 have k3 := rX IL.out
 go_wp2_with (refine wpList_load_row rfl 43 _ rfl (w.heap.size + 1) rfl 43 _ (0, 0) _ PX.out Tryz.underlying43 rfl (mB HD.out) ?_)
 clear k2 k3
 refine (sN leaf d sp1 c1 cl w1 HD.out ((HC.out.below AB.out (Nat.le_refl _)).more (by omega))).mono ?_
 rintro e w2 ⟨rfl, hb2⟩
 have PU : Hid (w2.heap[w.heap.size + 1 + 1]? = some (.cells (siA leaf (.slice sp1 68 c1) (.slice sp2 h c2)) 60 (0, 0))) := (hb2.block _ (by omega)).trans IL.out
 have PV : Hid (w2.heap[w.heap.size]? = some (.cells (pkA h r) 56 (0, 0))) := (hb2.block _ (by omega)).trans PW.out
 have EY : Hid (Below w.heap.size w w2) := AB.out.trans (hb2.mono (by omega))
 have hs2 : w.heap.size + 3 ≤ w2.heap.size := by have := hb2.size; omega
 clear hb2
 generalize hsr : wW (leaf : Int) d cl = s at EM
 have HSR := zh hsr; clear hsr
 have HZN := zh (Zro.new w2)
 have HRB := zh (RowB.new w2 54 s)
 go_wp2_with (first
  | (refine wpList_store_row rfl 54 _ _ rfl w2.heap.size _ rfl rfl 54 _ HZN.out.z (aJ EM.out) (dF EM.out) (dC _) ?_; rw [bF]; generalize hw3 : World.alloc w2 _ = w3; have HR3 : Hid (RowB w2 54 s w3) := (by rw [← hw3]; exact HRB.out); clear hw3 HZN HRB; have MW : Hid (w3.heap[w.heap.size + 1 + 1]? = some (.cells (siA leaf (.slice sp1 68 c1) (.slice sp2 h c2)) 60 (0, 0))) := ((HR3.out.b.block _ (by omega)).trans PU.out); have k2 := nK MW.out))
 clear k2
 have HSk3 : Hid (w3.heap[w.heap.size]? = some (.cells (pkA h r) 56 (0, 0))) := (HR3.out.b.block _ (by omega)).trans PV.out
 have JV : Hid (Below w.heap.size w w3) := EY.out.trans (HR3.out.b.mono (by omega))
 have HP3 : Hid (HvsIn w3 w.heap.size sp2 h c2 pl) := HP.out.below JV.out (Nat.le_refl _)
 have HN3 : Hid (w3.heap[w2.heap.size]? = some (.cells (hvA s) 54 (0, 0))) := HR3.out.r
 have hs3 : w2.heap.size < w3.heap.size := by have := HR3.out.s; omega
 clear HR3 PU PV EY IL PW PX AB
 generalize w2.heap.size = gn at *
 go_loopw [9, 10] (fun u v wr => ∃ k : Nat, k ≤ h ∧ u = .int .i64 ((leaf / 2 ^ k : Nat) : Int) ∧ v = .int .i64 (k : Int) ∧ Hid (wr.heap[gn]? = some (.cells (hvA (lR pl s leaf k)) 54 (0, 0))) ∧ Hid (Below gn w3 wr) ∧ gn + 1 ≤ wr.heap.size) (fun _ v _ => h - (intOf v).toNat)
 case atStart => exact ⟨0, by omega, by simp, rfl, HN3.out, Below.refl _ _, hs3⟩
 case round =>
  clear HN3
  obtain ⟨k, hkh, rfl, rfl, HNR, HBR, hsr⟩ := hrel
  by_cases hlt : k < h
  ·have hd1 : decide ((k : Int) < (h : Int)) = true := by simp; omega
   have p1 : (0 : Int) ≤ (k : Int) := by omega
   have p2 : (k : Int) < (h : Int) := by omega
   have HWS := zh (oC pl s leaf k)
   have HJS : Hid (leaf / 2 ^ (k + 1) = leaf / 2 ^ k / 2) := lH leaf k
   have dR := zh (jT (p := pl) EM.out leaf k)
   obtain ⟨sb, so, rfl, hsb, hcc, hrr⟩ := HP3.out.cells (by omega)
   have HYR0 : Hid (w3.rangeAt sb (so + k * 16) ((pl.getD k []).map (Value.int .u8))) := hrr k hlt
   have HYR : Hid (wr.rangeAt sb (so + k * 16) ((pl.getD k []).map (Value.int .u8))) := aA (hrr k hlt) HBR.out (by omega)
   have iG := zh (HP3.out.at16 hlt)
   have p3 : (h : Int) ≤ (c2 : Int) := by omega
   have hile : leaf / 2 ^ k ≤ 64 := Nat.le_trans (Nat.div_le_self _ _) h64
   have IK : Hid (wr.heap[w.heap.size + 1 + 1]? = some (.cells (siA leaf (.slice sp1 68 c1) (.slice (some ⟨sb, so, none⟩) h c2)) 60 (0, 0))) := (HBR.out.block _ (by omega)).trans MW.out
   have k4 := oF IK.out
   clear hrr
   generalize lR pl s leaf k = x at *
   generalize pl.getD k [] = y at *
   generalize leaf / 2 ^ k = i at *
   obtain ⟨j, hj⟩ : ∃ j : Nat, i / 2 = j := ⟨_, rfl⟩
   rw [hj] at HWS HJS
   have hq : (i : Int) / 2 = (j : Int) := by omega
   have hjw : IntKind.i64.wrap (j : Int) = (j : Int) := IntWalk.i64_in _ (by omega)
   clear hj
   have HIX := zh (bS dR.out); have HIY := zh (bS iG.out)
   have HNQ : Hid (wr.rangeAt gn 0 (x.map (Value.int .u8))) := aO HNR.out
   by_cases hodd : i % 2 = 1
   ·have hp1 : ((i : Int) % 2 == 0) = false := by simp; omega
    have HJ : Hid (lR pl s leaf (k + 1) = dV k j y x) := by show _ = _; rw [HWS.out, if_pos (by omega)]
    have HJC := zh (fun w' => (show Calls Tryz.prog 97 #[.int .i64 (k : Int), .int .i64 (j : Int), .agg (y.map (Value.int .u8)).toArray, .agg (x.map (Value.int .u8)).toArray] w' fun e w'' => e = .returned (.agg (hvA (dV k j y x))) ∧ Below w'.heap.size w' w'' from oL k j y x w' iG.out dR.out))
    go_upto_region 10 with (fail)
    clear hp1 k4 hd1
    refine wp_region_held_drew (S := fun w' => w'.heap[w.heap.size + 1 + 1]? = some (.cells (siA leaf (.slice sp1 68 c1) (.slice (some ⟨sb, so, none⟩) h c2)) 60 (0, 0)) ∧ w'.rangeAt sb (so + k * 16) (y.map (Value.int .u8))) (by kernel_rfl) ⟨IK.out, HYR.out⟩ (fun hHeld => ?_)
    refine zv 0 rfl ?_
    refine zv 1 rfl ?_
    refine zv 2 rfl ?_
    refine zv 3 rfl ?_
    refine zx 4 rfl (v := ?_) ?_ ?_; rotate_left
    ·intro w' hSw; have c1 := oF hSw.1; go_simp; try with_reducible rfl
    refine zv 5 rfl ?_
    refine zv 6 rfl ?_
    refine' zk 7 rfl (v := _) (yieldsIf_load_mid (by rfl) _ _ rfl _ _ rfl _ _ ?hS7n10 Tryz.underlying54 rfl HIY.out) ?rest7n10
    case hS7n10 =>
     intro w' hSw
     exact hSw.2
    try simp only [Act.put, zA, zB, zC, zD, zE, zF]
    refine zr 8 rfl (fun K hK => ?_)
    rw [if_pos (by rfl)]
    refine wp_load_mid 54 _ rfl gn 0 rfl _ _ HNQ.out Tryz.underlying54 rfl HIX.out ?_
    skip
    refine hK.out _ _ ⟨IK.out, HYR.out⟩ fun _ => ?_; clear hK K
    try simp only [Act.put, zA, zB, zC, zD, zE, zF]
    refine zr 9 rfl (fun K hK => ?_)
    go_simp
    with_reducible refine (HJC.out _).mono ?_
    rintro e wc ⟨rfl, hbc⟩
    have HEc : Hid (Below wr.heap.size wr wc) := (Below.refl _ _).drew.trans hbc
    clear hbc
    have HNc : Hid (wc.heap[gn]? = some (.cells (hvA x) 54 (0, 0))) := (HEc.out.block _ (by omega)).trans HNR.out
    have HSc : Hid (wc.heap[w.heap.size + 1 + 1]? = some (.cells (siA leaf (.slice sp1 68 c1) (.slice (some ⟨sb, so, none⟩) h c2)) 60 (0, 0))) := (HEc.out.block _ (by omega)).trans IK.out
    have HYc : Hid (wc.rangeAt sb (so + k * 16) (y.map (Value.int .u8))) := aA HYR.out HEc.out (by omega)
    have ES : Hid (Below gn w3 wc) := HBR.out.trans (HEc.out.mono (by omega))
    have hsc : gn + 1 ≤ wc.heap.size := by have := HEc.out.size; omega
    go_wp2_with fail
    refine hK.out _ _ ⟨HSc.out, HYc.out⟩ fun _ => ?_; clear hK K
    try simp only [Act.put, zA, zB, zC, zD, zE, zF]
    refine zr 10 rfl (fun K hK => ?_)
    rw [if_pos (by rfl)]
    refine wp_store_row 54 _ _ rfl gn (hvA (dV k j y x)) rfl rfl 54 _ HNc.out (aJ (bE _ _ _ _)) (by simp [hvA, dR.out.1, (bE (k : Int) (j : Int) y x).1]) (dC _) ?_
    generalize hwd : World.setRow wc _ _ = wd
    have HNd : Hid (wd.heap[gn]? = some (.cells (hvA (dV k j y x)) 54 (0, 0))) := by rw [← hwd]; exact setRow_heap _ _ _ _ _ _ HNc.out
    have HSd : Hid (wd.heap[w.heap.size + 1 + 1]? = some (.cells (siA leaf (.slice sp1 68 c1) (.slice (some ⟨sb, so, none⟩) h c2)) 60 (0, 0))) := by rw [← hwd]; exact (setRow_other _ _ _ _ (by omega)).trans HSc.out
    have HBd : Hid (Below gn w3 wd) := by rw [← hwd]; exact below_setRow ES.out (Nat.le_refl _) _
    have hsd : gn + 1 ≤ wd.heap.size := by rw [← hwd]; simp [World.setRow]; omega
    have HYd : Hid (wd.rangeAt sb (so + k * 16) (y.map (Value.int .u8))) := aA HYR0.out HBd.out (by omega)
    clear hwd
    skip
    refine hK.out _ _ ⟨HSd.out, HYd.out⟩ fun _ => ?_; clear hK K
    try simp only [Act.put, zA, zB, zC, zD, zE, zF]
    refine zd ?_ _
    go_wp2_with fail
    go_roundw
    case rel => exact ⟨k + 1, by omega, by rw [HJS.out], by go_num, by rw [HJ.out]; exact HNd.out, HBd.out, hsd⟩
    case measure => simp [intOf]; omega
   ·have hp1 : ((i : Int) % 2 == 0) = true := by simp; omega
    have HJ : Hid (lR pl s leaf (k + 1) = dV k j x y) := by show _ = _; rw [HWS.out, if_neg (by omega)]
    have HJC := zh (fun w' => (show Calls Tryz.prog 97 #[.int .i64 (k : Int), .int .i64 (j : Int), .agg (x.map (Value.int .u8)).toArray, .agg (y.map (Value.int .u8)).toArray] w' fun e w'' => e = .returned (.agg (hvA (dV k j x y))) ∧ Below w'.heap.size w' w'' from oL k j x y w' dR.out iG.out))
    go_upto_region 9 with (fail)
    clear hp1 k4 hd1
    refine wp_region_held_drew (S := fun w' => w'.heap[w.heap.size + 1 + 1]? = some (.cells (siA leaf (.slice sp1 68 c1) (.slice (some ⟨sb, so, none⟩) h c2)) 60 (0, 0)) ∧ w'.rangeAt sb (so + k * 16) (y.map (Value.int .u8))) (by kernel_rfl) ⟨IK.out, HYR.out⟩ (fun hHeld => ?_)
    refine zv 0 rfl ?_
    refine zv 1 rfl ?_
    refine zv 2 rfl ?_
    refine zv 4 rfl ?_
    refine zx 5 rfl (v := ?_) ?_ ?_; rotate_left
    ·intro w' hSw; have c1 := oF hSw.1; go_simp; try with_reducible rfl
    refine zv 6 rfl ?_
    refine zv 7 rfl ?_
    refine' zk 8 rfl (v := _) (yieldsIf_load_mid (by rfl) _ _ rfl _ _ rfl _ _ ?hS8n18 Tryz.underlying54 rfl HIY.out) ?rest8n18
    case hS8n18 =>
     intro w' hSw
     exact hSw.2
    try simp only [Act.put, zA, zB, zC, zD, zE, zF]
    refine zr 3 rfl (fun K hK => ?_)
    rw [if_pos (by rfl)]
    refine wp_load_mid 54 _ rfl gn 0 rfl _ _ HNQ.out Tryz.underlying54 rfl HIX.out ?_
    skip
    refine hK.out _ _ ⟨IK.out, HYR.out⟩ fun _ => ?_; clear hK K
    try simp only [Act.put, zA, zB, zC, zD, zE, zF]
    refine zr 9 rfl (fun K hK => ?_)
    go_simp
    with_reducible refine (HJC.out _).mono ?_
    rintro e wc ⟨rfl, hbc⟩
    have HEc : Hid (Below wr.heap.size wr wc) := (Below.refl _ _).drew.trans hbc
    clear hbc
    have HNc : Hid (wc.heap[gn]? = some (.cells (hvA x) 54 (0, 0))) := (HEc.out.block _ (by omega)).trans HNR.out
    have HSc : Hid (wc.heap[w.heap.size + 1 + 1]? = some (.cells (siA leaf (.slice sp1 68 c1) (.slice (some ⟨sb, so, none⟩) h c2)) 60 (0, 0))) := (HEc.out.block _ (by omega)).trans IK.out
    have HYc : Hid (wc.rangeAt sb (so + k * 16) (y.map (Value.int .u8))) := aA HYR.out HEc.out (by omega)
    have ES : Hid (Below gn w3 wc) := HBR.out.trans (HEc.out.mono (by omega))
    have hsc : gn + 1 ≤ wc.heap.size := by have := HEc.out.size; omega
    go_wp2_with fail
    refine hK.out _ _ ⟨HSc.out, HYc.out⟩ fun _ => ?_; clear hK K
    try simp only [Act.put, zA, zB, zC, zD, zE, zF]
    refine zr 10 rfl (fun K hK => ?_)
    rw [if_pos (by rfl)]
    refine wp_store_row 54 _ _ rfl gn (hvA (dV k j x y)) rfl rfl 54 _ HNc.out (aJ (bE _ _ _ _)) (by simp [hvA, dR.out.1, (bE (k : Int) (j : Int) x y).1]) (dC _) ?_
    generalize hwd : World.setRow wc _ _ = wd
    have HNd : Hid (wd.heap[gn]? = some (.cells (hvA (dV k j x y)) 54 (0, 0))) := by rw [← hwd]; exact setRow_heap _ _ _ _ _ _ HNc.out
    have HSd : Hid (wd.heap[w.heap.size + 1 + 1]? = some (.cells (siA leaf (.slice sp1 68 c1) (.slice (some ⟨sb, so, none⟩) h c2)) 60 (0, 0))) := by rw [← hwd]; exact (setRow_other _ _ _ _ (by omega)).trans HSc.out
    have HBd : Hid (Below gn w3 wd) := by rw [← hwd]; exact below_setRow ES.out (Nat.le_refl _) _
    have hsd : gn + 1 ≤ wd.heap.size := by rw [← hwd]; simp [World.setRow]; omega
    have HYd : Hid (wd.rangeAt sb (so + k * 16) (y.map (Value.int .u8))) := aA HYR0.out HBd.out (by omega)
    clear hwd
    skip
    refine hK.out _ _ ⟨HSd.out, HYd.out⟩ fun _ => ?_; clear hK K
    try simp only [Act.put, zA, zB, zC, zD, zE, zF]
    refine zd ?_ _
    go_wp2_with fail
    go_roundw
    case rel => exact ⟨k + 1, by omega, by rw [HJS.out], by go_num, by rw [HJ.out]; exact HNd.out, HBd.out, hsd⟩
    case measure => simp [intOf]; omega
  ·obtain rfl : k = h := by omega
   have hd1 : decide ((k : Int) < (k : Int)) = false := by simp
   have IK : Hid (wr.heap[w.heap.size + 1 + 1]? = some (.cells (siA leaf (.slice sp1 68 c1) (.slice sp2 k c2)) 60 (0, 0))) := (HBR.out.block _ (by omega)).trans MW.out
   have k4 := oF IK.out
   have HSkr : Hid (wr.heap[w.heap.size]? = some (.cells (pkA k r) 56 (0, 0))) := (HBR.out.block _ (by omega)).trans HSk3.out
   have HRr := zh (pk_r HSkr.out)
   have HIW := zh (jT (p := pl) EM.out leaf k)
   have HNQ : Hid (wr.rangeAt gn 0 ((lR pl s leaf k).map (Value.int .u8))) := aO HNR.out
   have heq := HEQ.out wr
   rw [HSR.out] at heq
   go_wp2_with (first
    | (refine aX (by rfl) 54 _ rfl gn 0 rfl _ _ HNQ.out Tryz.underlying54 rfl (bS HIW.out) ?_)
    | (refine aX (by rfl) 54 _ rfl w.heap.size 1 rfl _ _ HRr.out Tryz.underlying54 rfl HIR.out ?_))
   go_ret
   refine ⟨?_, JV.out.trans (HBR.out.mono (by omega))⟩
   rw [HSR.out]
   rfl
theorem uW (h : Int) (r d : List Int) (l : Int) (sp1 : Option Addr) (n c1 : Nat) (sp2 : Option Addr) (m c2 : Nat) (cl pl : List (List Int)) (w : World) (hr : H16 r) (hd : D32 d) (hc : HvsIn w w.heap.size sp1 n c1 cl) (hp : HvsIn w w.heap.size sp2 m c2 pl) :
 Calls Tryz.prog 66 #[.agg (pkA h r), .agg (dgA d), .agg (siA l (.slice sp1 n c1) (.slice sp2 m c2))] w fun e w' => e = .returned (.bool (AR h r d l n m cl pl)) ∧ Below w.heap.size w w' := by
 by_cases hs : jC h l n m = true
 ·have hs2 := hs
  unfold jC at hs2
  obtain ⟨⟨h0, h6⟩, l0, l1, rfl, hm⟩ := of_decide_eq_true hs2
  obtain ⟨k, rfl⟩ : ∃ k : Nat, h = (k : Int) := ⟨h.toNat, by omega⟩
  obtain ⟨leaf, rfl⟩ : ∃ leaf : Nat, l = (leaf : Int) := ⟨l.toNat, by omega⟩
  obtain rfl : m = k := by omega
  unfold lvN at l1
  rw [Int.toNat_natCast] at l1
  have hv := uV m r d leaf sp1 c1 sp2 c2 cl pl w hr hd (by omega) (by omega) hc hp
  unfold AR
  rw [hs, Bool.true_and, Int.toNat_natCast, Int.toNat_natCast]
  exact hv
 ·have hs2 : jC h l n m = false := by simpa using hs
  unfold AR
  rw [hs2, Bool.false_and]
  exact yN h r d l sp1 n c1 sp2 m c2 w hr hs2
end Go.Proofs.YtcligodahogpkaaGreatDoor
