/-
  The walks of record.tooLong, validCommand and validEnv (conditions in each theorem).
-/
import Derived.Test.YtecllfbadciaoaaGreatDoorZip
import Derived.Test.YtecllfbadciaoaaGreatDoorQ14
set_option maxRecDepth 100000
set_option maxHeartbeats 8000000
namespace Go.Proofs.YtecllfbadciaoaaGreatDoor
open Go.RowKit
theorem tooLong2_any (s : ByteArray) (w : World) :
 Calls Tryz.prog 107 #[.string s] w fun e w' => e = .returned (.bool (lng2 s)) ∧ w = w' := by
 have HX : Hid (lng2 s = decide (200 < s.size)) := rfl
 by_cases h : 200 < s.size
 ·have hd : decide ((s.size : Int) > 200) = true := by simp; omega
  go_enter Tryz.func107, Tryz.ntmps107
  go_wp2_with fail
  go_ret
  exact ⟨by rw [HX.out, decide_eq_true h]; rfl, rfl⟩
 ·have hd : decide ((s.size : Int) > 200) = false := by simp; omega
  go_enter Tryz.func107, Tryz.ntmps107
  go_wp2_with fail
  go_ret
  exact ⟨by rw [HX.out, decide_eq_false h]; rfl, rfl⟩
def IdxRes2 (l : List ByteArray) (w : World) (e : Ending) (w' : World) : Prop := ∃ i : Int, e = .returned (.int .i64 i) ∧ Hid (decide (0 ≤ i) = l.any lng2) ∧ w = w'
theorem indexFunc2_any (sp : Option Addr) (n cap : Nat) (l : List ByteArray) (w : World) (hl : StrsIn w w.heap.size sp n l) (hmax : n ≤ 9223372036854775807) :
 Calls Tryz.prog 123 #[.slice sp n cap, .func (.func 107) #[] #[]] w (IdxRes2 l w) := by
 have HL := zh hl; clear hl
 go_enter Tryz.func123, Tryz.ntmps123
 go_wp2_with fail
 go_loop [8] (fun i => ∃ k : Nat, k ≤ n ∧ i = .int .i64 k ∧ Hid ((l.take k).any lng2 = false)) (fun i => n - (intOf i).toNat)
 case atStart => exact ⟨0, by omega, rfl, by show _ = false; simp⟩
 case round =>
  obtain ⟨k, hk, rfl, HA⟩ := hrel
  by_cases hlt : k < n
  ·obtain ⟨b, off, rfl, hb, hcell⟩ := HL.out.cells (by omega)
   have hk2 : k < l.length := by have := HL.out.len; omega
   have ck := hcell k hk2
   clear hcell
   have HN := zh (cmd_take_succ l k hk2 HA.out)
   have HY := zh (cmd_any l k hk2)
   generalize l[k] = s at *
   cases hd : lng2 s
   ·have HD2 := zh hd; clear hd
    go_wp2_with (go_at_call 107; refine (tooLong2_any _ _).mono ?_; rintro e w' ⟨rfl, rfl⟩; rw [HD2.out])
    go_round
    case rel => exact ⟨k + 1, by omega, by go_num, HN.out HD2.out⟩
    case measure => simp [intOf]; omega
   ·have HD2 := zh hd; clear hd
    go_wp2_with (go_at_call 107; refine (tooLong2_any _ _).mono ?_; rintro e w' ⟨rfl, rfl⟩; rw [HD2.out])
    go_ret
    exact ⟨(k : Int), rfl, by show _ = _; rw [HY.out HD2.out]; simp, rfl⟩
  ·obtain rfl : k = n := by omega
   go_wp2
   go_ret
   exact ⟨-1, rfl, by show _ = _; rw [List.take_of_length_le (by rw [HL.out.len]; exact Nat.le_refl _)] at HA; rw [HA.out]; rfl, rfl⟩
theorem containsFunc2_any (sp : Option Addr) (n cap : Nat) (l : List ByteArray) (w : World) (hl : StrsIn w w.heap.size sp n l) (hmax : n ≤ 9223372036854775807) :
 Calls Tryz.prog 101 #[.slice sp n cap, .func (.func 107) #[] #[]] w fun e w' => e = .returned (.bool (l.any lng2)) ∧ w = w' := by
 have HC := zh (indexFunc2_any sp n cap l w hl hmax)
 clear hl
 go_enter Tryz.func101, Tryz.ntmps101
 go_wp2_with (go_at_call 123; refine HC.out.mono ?_; rintro e w' ⟨i, rfl, hi, rfl⟩)
 go_ret
 exact ⟨ret_bool hi.out, rfl⟩
theorem validCommand_any (sp : Option Addr) (n cap : Nat) (l : List ByteArray) (w : World) (hl : StrsIn w w.heap.size sp n l) (hmax : n ≤ 1000) :
 Calls Tryz.prog 69 #[.slice sp n cap] w fun e w' => e = .returned (.bool (cmdB l)) ∧ w = w' := by
 have HC := zh (containsFunc2_any sp n cap l w hl (by omega))
 have HX : Hid (cmdB l = (decide (n ≤ 16) && !l.any lng2)) := by show _ = _; unfold cmdB; rw [hl.len]
 clear hl
 generalize l.any lng2 = b at *
 by_cases h : n ≤ 16
 ·have hd : decide ((n : Int) ≤ 16) = true := by simp; omega
  have HX2 : Hid (cmdB l = !b) := by show _ = _; rw [HX.out, decide_eq_true h, Bool.true_and]
  go_enter Tryz.func69, Tryz.ntmps69
  go_wp2_with fail
  refine HC.out.mono ?_
  rintro e w' ⟨rfl, rfl⟩
  go_wp2_with fail
  go_ret
  exact ⟨by rw [HX2.out]; rfl, rfl⟩
 ·have hd : decide ((n : Int) ≤ 16) = false := by simp; omega
  have HX2 : Hid (cmdB l = false) := by show _ = _; rw [HX.out, decide_eq_false h, Bool.false_and]
  go_enter Tryz.func69, Tryz.ntmps69
  go_wp2_with fail
  go_ret
  exact ⟨by rw [HX2.out]; rfl, rfl⟩
theorem validEnv_any (sp : Option Addr) (n cap : Nat) (l : List Vr) (w : World) (hl : VrsIn w w.heap.size sp n cap l) (hmax : n ≤ 1000) (hs : ∀ y ∈ l, y.n.size ≤ maxLen) :
 Calls Tryz.prog 70 #[.slice sp n cap] w fun e w' => e = .returned (.bool (envB l)) ∧ Below w.heap.size w w' := by
 have HL := zh hl; have HSZ := zh hs
 by_cases h16 : 16 < n
 ·have hd : decide ((n : Int) > 16) = true := by simp; omega
  have HX : Hid (envB l = false) := by show _ = _; unfold envB; rw [hl.len, decide_eq_false (by omega), Bool.false_and]
  clear hl hs
  go_enter Tryz.func70, Tryz.ntmps70
  go_wp2_with fail
  go_ret
  exact ⟨by rw [HX.out]; rfl, Below.refl _ _⟩
 have hd : decide ((n : Int) > 16) = false := by simp; omega
 have HX : Hid (envB l = vAll l) := by show _ = _; unfold envB; rw [hl.len, decide_eq_true (by omega), Bool.true_and]
 clear hl hs
 go_enter Tryz.func70, Tryz.ntmps70
 go_wp2_with fail
 clear hd
 go_loopw [10] (fun i wr => ∃ k : Nat, k ≤ n ∧ i = .int .i64 k ∧ Hid (∀ j, j < k → vAt l j = true) ∧ Hid (Below w.heap.size w wr)) (fun i _ => n - (intOf i).toNat)
 case atStart => exact ⟨0, Nat.zero_le _, rfl, fun j hj => absurd hj (by omega), Below.refl _ _⟩
 case round =>
  obtain ⟨k, hk, rfl, HA, HB⟩ := hrel
  by_cases hlt : k < n
  ·have hd : decide ((k : Int) < (n : Int)) = true := by simp; omega
   obtain ⟨b, off, rfl, hbB, hcap, hr⟩ := HL.out.cells (by omega)
   have hkl : k < l.length := by rw [HL.out.len]; exact hlt
   obtain ⟨x, hx⟩ : ∃ x, l[k]? = some x := ⟨l[k], List.getElem?_eq_getElem hkl⟩
   have HR := zh (range_belowR (hr k x hx) HB.out hbB)
   have HI := zh (infoVr x); have HIA := zh (infoVrA x)
   have p1 : (0 : Int) ≤ (k : Int) := by omega
   have p2 : (k : Int) < (n : Int) := by omega
   have q1 : IntKind.i64.wrap (k : Int) = (k : Int) := IntWalk.i64_in _ (by omega)
   go_upto_region 6 with (first
    | (refine wpList_load_mid rfl 61 _ rfl b (off + k * 2) rfl _ _ HR.out Tryz.underlying61 rfl HI.out ?_)
    | (refine wpList_store_row rfl 61 _ _ rfl wr.heap.size (vrL x).toArray rfl rfl 61 _ (heap_alloc_new wr _) HIA.out rfl (oneVr x) ?_; rw [setRow_new]))
   generalize hw2 : World.alloc wr _ = w2
   have HV2' : Hid (w2.heap[wr.heap.size]? = some (.cells (vrL x).toArray 61 (0, 0))) := by rw [← hw2]; exact heap_alloc_new _ _
   have HB2 : Hid (Below w.heap.size w w2) := by rw [← hw2]; exact HB.out.trans (((Below.refl _ _).alloc (Nat.le_refl _) _).mono HB.out.size)
   have hs2 : w2.heap.size = wr.heap.size + 1 := by rw [← hw2]; simp
   have hsz := HB.out.size
   obtain ⟨gv, hgv⟩ : ∃ gv, gv = wr.heap.size := ⟨_, rfl⟩
   have HV2 : Hid (w2.heap[gv]? = some (.cells (vrL x).toArray 61 (0, 0))) := by rw [hgv]; exact HV2'.out
   rw [← hgv]
   obtain ⟨B, hBe⟩ : ∃ B, B = w2.heap.size := ⟨_, rfl⟩
   have HGV : Hid (gv < B) := by show _ < _; omega
   have HSw2 : Hid (Blks B w2 w2 []) := Blks.start (Below.refl _ _) (Nat.le_of_eq hBe)
   have HBL : Hid (b < B) := by show _ < _; omega
   have HBe := zh hBe
   have hxm := List.mem_of_getElem? hx
   have HCN : Hid (∀ w', Below B w2 w' → Calls Tryz.prog 68 #[.string x.n] w' fun e w'' => e = .returned (.bool (nmB x.n.data.toList)) ∧ Below w'.heap.size w' w'') := fun w' _ => (Name_any x.n w' (HSZ.out x hxm)).mono fun e w'' h => ⟨h.1, h.2 ▸ Below.refl _ _⟩
   have HCT : Hid (∀ w', Below B w2 w' → Calls Tryz.prog 107 #[.string x.v] w' fun e w'' => e = .returned (.bool (lng2 x.v)) ∧ Below w'.heap.size w' w'') := fun w' _ => (tooLong2_any x.v w').mono fun e w'' h => ⟨h.1, h.2 ▸ Below.refl _ _⟩
   have HBD := zh (vAt_bad hx)
   have HNO0 : Hid (vAt l k = false → envB l = false) := fun h => by rw [HX.out]; exact vAll_no hkl h
   have HRR := zh hr; have HXX := zh hx
   clear hw2 HV2' hs2 hgv hBe hxm hr hx hkl HB HR HI HIA hsz
   cases hnm : nmB x.n.data.toList
   ·have HNO := zh (HNO0.out (HBD.out (.inl hnm)))
    rw [hnm] at HCN
    clear hnm HNO0 HBD
    refine wp_region_held_drew (S := fun w' => Below B w2 w') (by kernel_rfl) HSw2.out.b.drew (fun hHeld => ?_)
    refine zv 0 rfl ?_
    refine zx 1 rfl (v := ?_) ?_ ?_; rotate_left
    ·intro w' hSw; have k1 := heap_cellR ((hSw.block _ HGV.out).trans HV2.out) (L := vrL x) (j := 0) rfl; go_simp; try with_reducible rfl
    refine zr 2 rfl (fun K hK => ?_)
    go_simp
    with_reducible refine (HCN.out _ (HSw2.out.drew).b).mono ?_
    rintro e v1 ⟨rfl, hb⟩
    have HSv1 := zh (HSw2.out.call ((Below.refl _ _).drew.trans hb))
    clear hb
    go_wp2_with fail
    refine hK.out _ _ HSv1.out.b fun _ => ?_; clear hK K
    refine zv 3 rfl ?_
    refine zv 4 rfl ?_
    refine zk 5 rfl (v := undef) (.inr ⟨by rfl, rfl⟩) ?_; try simp only [Act.put, zuA, zuB, zuC, zuD, zuY, zuF]
    refine zk 6 rfl (v := undef) (.inr ⟨by rfl, rfl⟩) ?_; try simp only [Act.put, zuA, zuB, zuC, zuD, zuY, zuF]
    refine zk 7 rfl (v := undef) (.inr ⟨by rfl, rfl⟩) ?_; try simp only [Act.put, zuA, zuB, zuC, zuD, zuY, zuF]
    refine zv 8 rfl ?_
    refine zv 9 rfl ?_
    refine zk 10 rfl (v := undef) (.inr ⟨by rfl, rfl⟩) ?_; try simp only [Act.put, zuA, zuB, zuC, zuD, zuY, zuF]
    refine zk 11 rfl (v := undef) (.inr ⟨by rfl, rfl⟩) ?_; try simp only [Act.put, zuA, zuB, zuC, zuD, zuY, zuF]
    refine zk 12 rfl (v := undef) (.inr ⟨by rfl, rfl⟩) ?_; try simp only [Act.put, zuA, zuB, zuC, zuD, zuY, zuF]
    refine zk 13 rfl (v := undef) (.inr ⟨by rfl, rfl⟩) ?_; try simp only [Act.put, zuA, zuB, zuC, zuD, zuY, zuF]
    refine zk 14 rfl (v := undef) (.inr ⟨by rfl, rfl⟩) ?_; try simp only [Act.put, zuA, zuB, zuC, zuD, zuY, zuF]
    refine zk 15 rfl (v := undef) (.inr ⟨by rfl, rfl⟩) ?_; try simp only [Act.put, zuA, zuB, zuC, zuD, zuY, zuF]
    refine zk 16 rfl (v := undef) (.inr ⟨by rfl, rfl⟩) ?_; try simp only [Act.put, zuA, zuB, zuC, zuD, zuY, zuF]
    refine zk 17 rfl (v := undef) (.inr ⟨by rfl, rfl⟩) ?_; try simp only [Act.put, zuA, zuB, zuC, zuD, zuY, zuF]
    refine zk 18 rfl (v := undef) (.inr ⟨by rfl, rfl⟩) ?_; try simp only [Act.put, zuA, zuB, zuC, zuD, zuY, zuF]
    refine zk 19 rfl (v := undef) (.inr ⟨by rfl, rfl⟩) ?_; try simp only [Act.put, zuA, zuB, zuC, zuD, zuY, zuF]
    refine zk 20 rfl (v := undef) (.inr ⟨by rfl, rfl⟩) ?_; try simp only [Act.put, zuA, zuB, zuC, zuD, zuY, zuF]
    refine zk 21 rfl (v := undef) (.inr ⟨by rfl, rfl⟩) ?_; try simp only [Act.put, zuA, zuB, zuC, zuD, zuY, zuF]
    refine zk 22 rfl (v := undef) (.inr ⟨by rfl, rfl⟩) ?_; try simp only [Act.put, zuA, zuB, zuC, zuD, zuY, zuF]
    refine zv 23 rfl ?_
    refine zd ?_ _
    go_wp2_with fail
    go_ret
    exact ⟨by rw [HNO.out]; rfl, HB2.out.trans ((show Below w2.heap.size w2 v1 from by rw [← HBe.out]; exact HSv1.out.b).mono HB2.out.size)⟩
   ·rw [hnm] at HCN
    cases hlg : lng2 x.v
    ·rw [hlg] at HCT
     rcases k with _ | m
     ·have HYE : Hid (vAt l 0 = true) := by show _ = _; rw [vAt_zero HXX.out, hnm, hlg]; rfl
      clear hnm hlg HNO0 HBD
      have hz : decide (((0 : Nat) : Int) > 0) = false := by simp
      have hz' : decide ((0 : Int) > 0) = false := by simp
      refine wp_region_held_drew (S := fun w' => Below B w2 w') (by kernel_rfl) HSw2.out.b.drew (fun hHeld => ?_)
      refine zv 0 rfl ?_
      refine zx 1 rfl (v := ?_) ?_ ?_; rotate_left
      ·intro w' hSw; have k1 := heap_cellR ((hSw.block _ HGV.out).trans HV2.out) (L := vrL x) (j := 0) rfl; go_simp; try with_reducible rfl
      refine zr 2 rfl (fun K hK => ?_)
      go_simp
      with_reducible refine (HCN.out _ (HSw2.out.drew).b).mono ?_
      rintro e v1 ⟨rfl, hb⟩
      have HSv1 := zh (HSw2.out.call ((Below.refl _ _).drew.trans hb))
      clear hb
      go_wp2_with fail
      refine hK.out _ _ HSv1.out.b fun _ => ?_; clear hK K
      refine zv 3 rfl ?_
      refine zv 4 rfl ?_
      refine zv 5 rfl ?_
      refine zx 6 rfl (v := ?_) ?_ ?_; rotate_left
      ·intro w' hSw; have k1 := heap_cellR ((hSw.block _ HGV.out).trans HV2.out) (L := vrL x) (j := 1) rfl; go_simp; try with_reducible rfl
      refine zr 7 rfl (fun K hK => ?_)
      go_simp
      with_reducible refine (HCT.out _ (HSv1.out).b).mono ?_
      rintro e v2 ⟨rfl, hb⟩
      have HSv2 := zh (HSv1.out.call hb)
      clear hb
      go_wp2_with fail
      refine hK.out _ _ HSv2.out.b fun _ => ?_; clear hK K
      refine zv 8 rfl ?_
      refine zv 9 rfl ?_
      refine zv 10 rfl ?_
      refine zv 11 rfl ?_
      refine zv 12 rfl ?_
      refine zk 13 rfl (v := undef) (.inr ⟨by rfl, rfl⟩) ?_; try simp only [Act.put, zuA, zuB, zuC, zuD, zuY, zuF]
      refine zk 14 rfl (v := undef) (.inr ⟨by rfl, rfl⟩) ?_; try simp only [Act.put, zuA, zuB, zuC, zuD, zuY, zuF]
      refine zk 15 rfl (v := undef) (.inr ⟨by rfl, rfl⟩) ?_; try simp only [Act.put, zuA, zuB, zuC, zuD, zuY, zuF]
      refine zk 16 rfl (v := undef) (.inr ⟨by rfl, rfl⟩) ?_; try simp only [Act.put, zuA, zuB, zuC, zuD, zuY, zuF]
      refine zk 17 rfl (v := undef) (.inr ⟨by rfl, rfl⟩) ?_; try simp only [Act.put, zuA, zuB, zuC, zuD, zuY, zuF]
      refine zk 18 rfl (v := undef) (.inr ⟨by rfl, rfl⟩) ?_; try simp only [Act.put, zuA, zuB, zuC, zuD, zuY, zuF]
      refine zk 19 rfl (v := undef) (.inr ⟨by rfl, rfl⟩) ?_; try simp only [Act.put, zuA, zuB, zuC, zuD, zuY, zuF]
      refine zk 20 rfl (v := undef) (.inr ⟨by rfl, rfl⟩) ?_; try simp only [Act.put, zuA, zuB, zuC, zuD, zuY, zuF]
      refine zk 21 rfl (v := undef) (.inr ⟨by rfl, rfl⟩) ?_; try simp only [Act.put, zuA, zuB, zuC, zuD, zuY, zuF]
      refine zv 22 rfl ?_
      refine zv 23 rfl ?_
      refine zd ?_ _
      go_wp2_with fail
      go_roundw
      case rel => exact ⟨0 + 1, by omega, by go_num, fun j hj => (by rcases Nat.lt_succ_iff_lt_or_eq.1 hj with h | rfl; exact HA.out j h; exact HYE.out), HB2.out.trans ((show Below w2.heap.size w2 v2 from by rw [← HBe.out]; exact HSv2.out.b).mono HB2.out.size)⟩
      case measure => simp [intOf]; omega
     ·have hml : m < l.length := by rw [HL.out.len]; omega
      obtain ⟨y, hy⟩ : ∃ y, l[m]? = some y := ⟨l[m], List.getElem?_eq_getElem hml⟩
      have HPC : Hid (∀ w', Below B w2 w' → w'.cell? ⟨b, off + m * 2, none⟩ = some (.string y.n)) := fun w' hb => (hb.cell (p := ⟨b, off + m * 2, none⟩) HBL.out).trans ((HB2.out.cell (p := ⟨b, off + m * 2, none⟩) hbB).trans (HRR.out m y hy 0 _ rfl))
      have HSU := zh (vAt_succ HXX.out hy)
      have hz : decide (((m + 1 : Nat) : Int) > 0) = true := by simp <;> omega
      have hz' : decide ((m : Int) + 1 > 0) = true := by simp <;> omega
      have r1 : ((m + 1 : Nat) : Int) - 1 = (m : Int) := by omega
      have r2 : (m : Int) + 1 - 1 = (m : Int) := by omega
      have r3 : IntKind.i64.wrap (m : Int) = (m : Int) := IntWalk.i64_in _ (by omega)
      have r4 : (m : Int) < (n : Int) := by omega
      have r5 : (0 : Int) ≤ (m : Int) := by omega
      clear hy hml
      obtain ⟨c, hc⟩ : ∃ c, Op.bytesLess y.n.toList x.n.toList = c := ⟨_, rfl⟩
      have HC : Hid (pls y.n x.n = c) := hc
      rw [hnm, hlg, HC.out] at HSU
      clear hnm hlg HBD
      cases c
      ·have HNO := zh (HNO0.out HSU.out)
       refine wp_region_held_drew (S := fun w' => Below B w2 w') (by kernel_rfl) HSw2.out.b.drew (fun hHeld => ?_)
       refine zv 0 rfl ?_
       refine zx 1 rfl (v := ?_) ?_ ?_; rotate_left
       ·intro w' hSw; have k1 := heap_cellR ((hSw.block _ HGV.out).trans HV2.out) (L := vrL x) (j := 0) rfl; go_simp; try with_reducible rfl
       refine zr 2 rfl (fun K hK => ?_)
       go_simp
       with_reducible refine (HCN.out _ (HSw2.out.drew).b).mono ?_
       rintro e v1 ⟨rfl, hb⟩
       have HSv1 := zh (HSw2.out.call ((Below.refl _ _).drew.trans hb))
       clear hb
       go_wp2_with fail
       refine hK.out _ _ HSv1.out.b fun _ => ?_; clear hK K
       refine zv 3 rfl ?_
       refine zv 4 rfl ?_
       refine zv 5 rfl ?_
       refine zx 6 rfl (v := ?_) ?_ ?_; rotate_left
       ·intro w' hSw; have k1 := heap_cellR ((hSw.block _ HGV.out).trans HV2.out) (L := vrL x) (j := 1) rfl; go_simp; try with_reducible rfl
       refine zr 7 rfl (fun K hK => ?_)
       go_simp
       with_reducible refine (HCT.out _ (HSv1.out).b).mono ?_
       rintro e v2 ⟨rfl, hb⟩
       have HSv2 := zh (HSv1.out.call hb)
       clear hb
       go_wp2_with fail
       refine hK.out _ _ HSv2.out.b fun _ => ?_; clear hK K
       refine zv 8 rfl ?_
       refine zv 9 rfl ?_
       refine zv 10 rfl ?_
       refine zv 11 rfl ?_
       refine zv 12 rfl ?_
       refine zv 13 rfl ?_
       refine zv 14 rfl ?_
       refine zv 15 rfl ?_
       refine zv 16 rfl ?_
       refine zv 17 rfl ?_
       refine zx 18 rfl (v := ?_) ?_ ?_; rotate_left
       ·intro w' hSw; have k1 := HPC.out w' hSw; go_simp; try with_reducible rfl
       refine zv 19 rfl ?_
       refine zx 20 rfl (v := ?_) ?_ ?_; rotate_left
       ·intro w' hSw; have k1 := heap_cellR ((hSw.block _ HGV.out).trans HV2.out) (L := vrL x) (j := 0) rfl; go_simp; try with_reducible rfl
       refine zv 21 rfl ?_
       refine zv 22 rfl ?_
       refine zv 23 rfl ?_
       refine zd ?_ _
       go_wp2_with fail
       go_ret
       exact ⟨by rw [HNO.out]; rfl, HB2.out.trans ((show Below w2.heap.size w2 v2 from by rw [← HBe.out]; exact HSv2.out.b).mono HB2.out.size)⟩
      ·have HYE : Hid (vAt l (m + 1) = true) := HSU.out
       refine wp_region_held_drew (S := fun w' => Below B w2 w') (by kernel_rfl) HSw2.out.b.drew (fun hHeld => ?_)
       refine zv 0 rfl ?_
       refine zx 1 rfl (v := ?_) ?_ ?_; rotate_left
       ·intro w' hSw; have k1 := heap_cellR ((hSw.block _ HGV.out).trans HV2.out) (L := vrL x) (j := 0) rfl; go_simp; try with_reducible rfl
       refine zr 2 rfl (fun K hK => ?_)
       go_simp
       with_reducible refine (HCN.out _ (HSw2.out.drew).b).mono ?_
       rintro e v1 ⟨rfl, hb⟩
       have HSv1 := zh (HSw2.out.call ((Below.refl _ _).drew.trans hb))
       clear hb
       go_wp2_with fail
       refine hK.out _ _ HSv1.out.b fun _ => ?_; clear hK K
       refine zv 3 rfl ?_
       refine zv 4 rfl ?_
       refine zv 5 rfl ?_
       refine zx 6 rfl (v := ?_) ?_ ?_; rotate_left
       ·intro w' hSw; have k1 := heap_cellR ((hSw.block _ HGV.out).trans HV2.out) (L := vrL x) (j := 1) rfl; go_simp; try with_reducible rfl
       refine zr 7 rfl (fun K hK => ?_)
       go_simp
       with_reducible refine (HCT.out _ (HSv1.out).b).mono ?_
       rintro e v2 ⟨rfl, hb⟩
       have HSv2 := zh (HSv1.out.call hb)
       clear hb
       go_wp2_with fail
       refine hK.out _ _ HSv2.out.b fun _ => ?_; clear hK K
       refine zv 8 rfl ?_
       refine zv 9 rfl ?_
       refine zv 10 rfl ?_
       refine zv 11 rfl ?_
       refine zv 12 rfl ?_
       refine zv 13 rfl ?_
       refine zv 14 rfl ?_
       refine zv 15 rfl ?_
       refine zv 16 rfl ?_
       refine zv 17 rfl ?_
       refine zx 18 rfl (v := ?_) ?_ ?_; rotate_left
       ·intro w' hSw; have k1 := HPC.out w' hSw; go_simp; try with_reducible rfl
       refine zv 19 rfl ?_
       refine zx 20 rfl (v := ?_) ?_ ?_; rotate_left
       ·intro w' hSw; have k1 := heap_cellR ((hSw.block _ HGV.out).trans HV2.out) (L := vrL x) (j := 0) rfl; go_simp; try with_reducible rfl
       refine zv 21 rfl ?_
       refine zv 22 rfl ?_
       refine zv 23 rfl ?_
       refine zd ?_ _
       go_wp2_with fail
       go_roundw
       case rel => exact ⟨m + 1 + 1, by omega, by go_num, fun j hj => (by rcases Nat.lt_succ_iff_lt_or_eq.1 hj with h | rfl; exact HA.out j h; exact HYE.out), HB2.out.trans ((show Below w2.heap.size w2 v2 from by rw [← HBe.out]; exact HSv2.out.b).mono HB2.out.size)⟩
       case measure => simp [intOf]; omega
    ·have HNO := zh (HNO0.out (HBD.out (.inr hlg)))
     rw [hlg] at HCT
     clear hnm hlg HNO0 HBD
     refine wp_region_held_drew (S := fun w' => Below B w2 w') (by kernel_rfl) HSw2.out.b.drew (fun hHeld => ?_)
     refine zv 0 rfl ?_
     refine zx 1 rfl (v := ?_) ?_ ?_; rotate_left
     ·intro w' hSw; have k1 := heap_cellR ((hSw.block _ HGV.out).trans HV2.out) (L := vrL x) (j := 0) rfl; go_simp; try with_reducible rfl
     refine zr 2 rfl (fun K hK => ?_)
     go_simp
     with_reducible refine (HCN.out _ (HSw2.out.drew).b).mono ?_
     rintro e v1 ⟨rfl, hb⟩
     have HSv1 := zh (HSw2.out.call ((Below.refl _ _).drew.trans hb))
     clear hb
     go_wp2_with fail
     refine hK.out _ _ HSv1.out.b fun _ => ?_; clear hK K
     refine zv 3 rfl ?_
     refine zv 4 rfl ?_
     refine zv 5 rfl ?_
     refine zx 6 rfl (v := ?_) ?_ ?_; rotate_left
     ·intro w' hSw; have k1 := heap_cellR ((hSw.block _ HGV.out).trans HV2.out) (L := vrL x) (j := 1) rfl; go_simp; try with_reducible rfl
     refine zr 7 rfl (fun K hK => ?_)
     go_simp
     with_reducible refine (HCT.out _ (HSv1.out).b).mono ?_
     rintro e v2 ⟨rfl, hb⟩
     have HSv2 := zh (HSv1.out.call hb)
     clear hb
     go_wp2_with fail
     refine hK.out _ _ HSv2.out.b fun _ => ?_; clear hK K
     refine zv 8 rfl ?_
     refine zv 9 rfl ?_
     refine zk 10 rfl (v := undef) (.inr ⟨by rfl, rfl⟩) ?_; try simp only [Act.put, zuA, zuB, zuC, zuD, zuY, zuF]
     refine zk 11 rfl (v := undef) (.inr ⟨by rfl, rfl⟩) ?_; try simp only [Act.put, zuA, zuB, zuC, zuD, zuY, zuF]
     refine zk 12 rfl (v := undef) (.inr ⟨by rfl, rfl⟩) ?_; try simp only [Act.put, zuA, zuB, zuC, zuD, zuY, zuF]
     refine zk 13 rfl (v := undef) (.inr ⟨by rfl, rfl⟩) ?_; try simp only [Act.put, zuA, zuB, zuC, zuD, zuY, zuF]
     refine zk 14 rfl (v := undef) (.inr ⟨by rfl, rfl⟩) ?_; try simp only [Act.put, zuA, zuB, zuC, zuD, zuY, zuF]
     refine zk 15 rfl (v := undef) (.inr ⟨by rfl, rfl⟩) ?_; try simp only [Act.put, zuA, zuB, zuC, zuD, zuY, zuF]
     refine zk 16 rfl (v := undef) (.inr ⟨by rfl, rfl⟩) ?_; try simp only [Act.put, zuA, zuB, zuC, zuD, zuY, zuF]
     refine zk 17 rfl (v := undef) (.inr ⟨by rfl, rfl⟩) ?_; try simp only [Act.put, zuA, zuB, zuC, zuD, zuY, zuF]
     refine zk 18 rfl (v := undef) (.inr ⟨by rfl, rfl⟩) ?_; try simp only [Act.put, zuA, zuB, zuC, zuD, zuY, zuF]
     refine zk 19 rfl (v := undef) (.inr ⟨by rfl, rfl⟩) ?_; try simp only [Act.put, zuA, zuB, zuC, zuD, zuY, zuF]
     refine zk 20 rfl (v := undef) (.inr ⟨by rfl, rfl⟩) ?_; try simp only [Act.put, zuA, zuB, zuC, zuD, zuY, zuF]
     refine zk 21 rfl (v := undef) (.inr ⟨by rfl, rfl⟩) ?_; try simp only [Act.put, zuA, zuB, zuC, zuD, zuY, zuF]
     refine zk 22 rfl (v := undef) (.inr ⟨by rfl, rfl⟩) ?_; try simp only [Act.put, zuA, zuB, zuC, zuD, zuY, zuF]
     refine zv 23 rfl ?_
     refine zd ?_ _
     go_wp2_with fail
     go_ret
     exact ⟨by rw [HNO.out]; rfl, HB2.out.trans ((show Below w2.heap.size w2 v2 from by rw [← HBe.out]; exact HSv2.out.b).mono HB2.out.size)⟩
  ·obtain rfl : k = n := by omega
   have hd : decide ((k : Int) < (k : Int)) = false := by simp
   have HY : Hid (envB l = true) := by show _ = _; rw [HX.out]; exact vAll_yes HL.out.len HA.out
   go_wp2_with fail
   go_ret
   exact ⟨by rw [HY.out]; rfl, HB.out⟩
end Go.Proofs.YtecllfbadciaoaaGreatDoor
