/-
  Keys of many one-time keys: the walk of the reference's Verify (condition: the lists read as halves).
-/
import Derived.Test.YtbfgkbcpkldofaaDoorKeyV
namespace Go.Proofs.YtbfgkbcpkldofaaDoor
open Go.RowKit Go.Proofs.YtbfgkbcpkldofaaDoor.One

set_option maxRecDepth 100000 in
set_option maxHeartbeats 4000000 in
theorem rverify_no (h : Int) (r d : List Int) (l : Int) (sp1 : Option Addr) (n c1 : Nat) (sp2 : Option Addr) (m c2 : Nat) (w : World) (hr : H16 r) (hshp : shpB h l n m = false) :
    Calls Tryd.prog 10 #[.agg (pkA h r), .agg (dgA d), .agg (siA l (.slice sp1 n c1) (.slice sp2 m c2))] w fun e w' => e = .returned (.bool false) ∧ Below w.heap.size w w' := by
  have HR16 := Lib.hid hr; have HSHP := Lib.hid hshp; clear hr hshp
  have HT := Lib.hid (VfBox.new w h r d l (.slice sp1 n c1) (.slice sp2 m c2))
  go_enter Tryd.func10, Tryd.ntmps10
  go_upto_region 1 with (fail)
  generalize hw0 : World.alloc (World.alloc (World.alloc w _) _) _ = w0
  have HT0 : Hid (VfBox w h r d l (.slice sp1 n c1) (.slice sp2 m c2) w0) := by rw [← hw0]; exact HT.out
  clear hw0 HT
  have hs0 : w.heap.size + 3 ≤ w0.heap.size := Nat.le_of_eq HT0.out.z.symm
  have k2 := si_l HT0.out.s
  have k3 := si_c HT0.out.s
  have k4 := si_p HT0.out.s
  go_wp2_with (refine wpList_load_row rfl 31 _ rfl w.heap.size rfl 31 _ (0, 0) _ HT0.out.k Tryd.underlying31 rfl (info_pk HR16.out) ?_)
  clear k2 k3 k4
  refine (rshaped_any h r l sp1 n c1 sp2 m c2 w0 HR16.out).mono ?_
  rintro e w1 ⟨rfl, hb1⟩
  rw [HSHP.out]
  have HB1 := Lib.hid hb1; clear hb1
  go_wp2_with fail
  go_ret
  exact ⟨rfl, HT0.out.b.trans (HB1.out.mono (by omega))⟩
set_option maxRecDepth 100000 in
set_option maxHeartbeats 8000000 in
theorem rverify_yes (h : Nat) (r d : List Int) (leaf : Nat) (sp1 : Option Addr) (c1 : Nat) (sp2 : Option Addr) (c2 : Nat) (cl pl : List (List Int)) (w : World) (hr : H16 r) (hd : D32 d) (hh : h ≤ 6) (hl : leaf < 2 ^ h) (hc : HvsIn w w.heap.size sp1 68 c1 cl) (hp : HvsIn w w.heap.size sp2 h c2 pl) :
    Calls Tryd.prog 10 #[.agg (pkA (h : Int) r), .agg (dgA d), .agg (siA (leaf : Int) (.slice sp1 68 c1) (.slice sp2 h c2))] w fun e w' => e = .returned (.bool (decide (wayB pl (recB leaf d cl) leaf h = r))) ∧ Below w.heap.size w w' := by
  have HR16 := Lib.hid hr; have HD := Lib.hid hd; have HC := Lib.hid hc; have HP := Lib.hid hp
  have HSHP : Hid (shpB (h : Int) (leaf : Int) 68 h = true) := by
    show _ = _
    unfold shpB
    rw [decide_eq_true]
    refine ⟨by omega, by omega, ?_, rfl, rfl⟩
    unfold lvN; rw [Int.toNat_natCast]; omega
  have h64 : leaf ≤ 64 := by have : 2 ^ h ≤ 2 ^ 6 := Nat.pow_le_pow_right (by omega) hh; omega
  have HIR := Lib.hid (info_h2' hr)
  have HS16 := Lib.hid (recB_H16 (leaf : Int) d cl)
  have HEQ := Lib.hid (fun w' => eqHM (wayB pl (recB leaf d cl) leaf h) r (wayB_H16 (recB_H16 _ _ _) leaf h).1 hr.1 w')
  clear hr hd hc hp hl
  have HT := Lib.hid (VfBox.new w h r d leaf (.slice sp1 68 c1) (.slice sp2 h c2))
  go_enter Tryd.func10, Tryd.ntmps10
  go_upto_region 1 with (fail)
  generalize hw0 : World.alloc (World.alloc (World.alloc w _) _) _ = w0
  have HT0 : Hid (VfBox w (h : Int) r d (leaf : Int) (.slice sp1 68 c1) (.slice sp2 h c2) w0) := by rw [← hw0]; exact HT.out
  clear hw0 HT
  have hs0 : w.heap.size + 3 ≤ w0.heap.size := Nat.le_of_eq HT0.out.z.symm
  have k2 := si_l HT0.out.s
  have k3 := si_c HT0.out.s
  have k4 := si_p HT0.out.s
  go_wp2_with (refine wpList_load_row rfl 31 _ rfl w.heap.size rfl 31 _ (0, 0) _ HT0.out.k Tryd.underlying31 rfl (info_pk HR16.out) ?_)
  clear k2 k3 k4
  refine (rshaped_any (h : Int) r (leaf : Int) sp1 68 c1 sp2 h c2 w0 HR16.out).mono ?_
  rintro e w1 ⟨rfl, hb1⟩
  rw [HSHP.out]
  have HB1 := Lib.hid hb1; clear hb1
  have HSs1 : Hid (w1.heap[w.heap.size + 1 + 1]? = some (.cells (siA leaf (.slice sp1 68 c1) (.slice sp2 h c2)) 37 (0, 0))) := (HB1.out.block _ (by omega)).trans HT0.out.s
  have HSd1 : Hid (w1.heap[w.heap.size + 1]? = some (.cells (dgA d) 25 (0, 0))) := (HB1.out.block _ (by omega)).trans HT0.out.d
  have HSk1 : Hid (w1.heap[w.heap.size]? = some (.cells (pkA h r) 31 (0, 0))) := (HB1.out.block _ (by omega)).trans HT0.out.k
  have HBW1 : Hid (Below w.heap.size w w1) := HT0.out.b.trans (HB1.out.mono (by omega))
  have hs1 := HB1.out.size
  clear HT0 HB1
  have k2 := si_l HSs1.out
  have k3 := si_c HSs1.out
  go_wp2_with (refine wpList_load_row rfl 25 _ rfl (w.heap.size + 1) rfl 25 _ (0, 0) _ HSd1.out Tryd.underlying25 rfl (info_dA HD.out) ?_)
  clear k2 k3
  refine (rrecover_yes leaf d sp1 c1 cl w1 HD.out ((HC.out.below HBW1.out (Nat.le_refl _)).more (by omega))).mono ?_
  rintro e w2 ⟨rfl, hb2⟩
  have HSs2 : Hid (w2.heap[w.heap.size + 1 + 1]? = some (.cells (siA leaf (.slice sp1 68 c1) (.slice sp2 h c2)) 37 (0, 0))) := (hb2.block _ (by omega)).trans HSs1.out
  have HSk2 : Hid (w2.heap[w.heap.size]? = some (.cells (pkA h r) 31 (0, 0))) := (hb2.block _ (by omega)).trans HSk1.out
  have HBW2 : Hid (Below w.heap.size w w2) := HBW1.out.trans (hb2.mono (by omega))
  have hs2 : w.heap.size + 3 ≤ w2.heap.size := by have := hb2.size; omega
  clear hb2
  generalize hsr : recB (leaf : Int) d cl = s at HS16
  have HSR := Lib.hid hsr; clear hsr
  have HZN := Lib.hid (Zro.new w2)
  have HRB := Lib.hid (RowB.new w2 23 s)
  go_wp2_with (first
    | (refine wpList_store_row rfl 23 _ _ rfl w2.heap.size _ rfl rfl 23 _ HZN.out.z (info_h HS16.out) (size_h HS16.out) (one_h _) ?_; rw [setRow_new]; generalize hw3 : World.alloc w2 _ = w3; have HR3 : Hid (RowB w2 23 s w3) := (by rw [← hw3]; exact HRB.out); clear hw3 HZN HRB; have HSs3 : Hid (w3.heap[w.heap.size + 1 + 1]? = some (.cells (siA leaf (.slice sp1 68 c1) (.slice sp2 h c2)) 37 (0, 0))) := ((HR3.out.b.block _ (by omega)).trans HSs2.out); have k2 := si_l HSs3.out))
  clear k2
  have HSk3 : Hid (w3.heap[w.heap.size]? = some (.cells (pkA h r) 31 (0, 0))) := (HR3.out.b.block _ (by omega)).trans HSk2.out
  have HBW3 : Hid (Below w.heap.size w w3) := HBW2.out.trans (HR3.out.b.mono (by omega))
  have HP3 : Hid (HvsIn w3 w.heap.size sp2 h c2 pl) := HP.out.below HBW3.out (Nat.le_refl _)
  have HN3 : Hid (w3.heap[w2.heap.size]? = some (.cells (hvA s) 23 (0, 0))) := HR3.out.r
  have hs3 : w2.heap.size < w3.heap.size := by have := HR3.out.s; omega
  clear HR3 HSs2 HSk2 HBW2 HSs1 HSk1 HSd1 HBW1
  generalize w2.heap.size = gn at *
  go_loopw [9, 10] (fun u v wr => ∃ k : Nat, k ≤ h ∧ u = .int .i64 ((leaf / 2 ^ k : Nat) : Int) ∧ v = .int .i64 (k : Int) ∧ Hid (wr.heap[gn]? = some (.cells (hvA (wayB pl s leaf k)) 23 (0, 0))) ∧ Hid (Below gn w3 wr) ∧ gn + 1 ≤ wr.heap.size) (fun _ v _ => h - (intOf v).toNat)
  case atStart => exact ⟨0, by omega, by simp, rfl, HN3.out, Below.refl _ _, hs3⟩
  case round =>
    clear HN3
    obtain ⟨k, hkh, rfl, rfl, HNR, HBR, hsr⟩ := hrel
    by_cases hlt : k < h
    · have hd1 : decide ((k : Int) < (h : Int)) = true := by simp; omega
      have p1 : (0 : Int) ≤ (k : Int) := by omega
      have p2 : (k : Int) < (h : Int) := by omega
      have HWS := Lib.hid (wayB_succ pl s leaf k)
      have HJS : Hid (leaf / 2 ^ (k + 1) = leaf / 2 ^ k / 2) := half_step leaf k
      have HX16 := Lib.hid (wayB_H16 (p := pl) HS16.out leaf k)
      obtain ⟨sb, so, rfl, hsb, hcc, hrr⟩ := HP3.out.cells (by omega)
      have HYR0 : Hid (w3.rangeAt sb (so + k * 16) ((pl.getD k []).map (Value.int .u8))) := hrr k hlt
      have HYR : Hid (wr.rangeAt sb (so + k * 16) ((pl.getD k []).map (Value.int .u8))) := range_belowG (hrr k hlt) HBR.out (by omega)
      have HY16 := Lib.hid (HP3.out.at16 hlt)
      have p3 : (h : Int) ≤ (c2 : Int) := by omega
      have hile : leaf / 2 ^ k ≤ 64 := Nat.le_trans (Nat.div_le_self _ _) h64
      have HSsr : Hid (wr.heap[w.heap.size + 1 + 1]? = some (.cells (siA leaf (.slice sp1 68 c1) (.slice (some ⟨sb, so, none⟩) h c2)) 37 (0, 0))) := (HBR.out.block _ (by omega)).trans HSs3.out
      have k4 := si_p HSsr.out
      clear hrr
      generalize wayB pl s leaf k = x at *
      generalize pl.getD k [] = y at *
      generalize leaf / 2 ^ k = i at *
      obtain ⟨j, hj⟩ : ∃ j : Nat, i / 2 = j := ⟨_, rfl⟩
      rw [hj] at HWS HJS
      have hq : (i : Int) / 2 = (j : Int) := by omega
      have hjw : IntKind.i64.wrap (j : Int) = (j : Int) := IntWalk.i64_in _ (by omega)
      clear hj
      have HIX := Lib.hid (info_h2' HX16.out); have HIY := Lib.hid (info_h2' HY16.out)
      have HNQ : Hid (wr.rangeAt gn 0 (x.map (Value.int .u8))) := row_rngK HNR.out
      by_cases hodd : i % 2 = 1
      · have hp1 : ((i : Int) % 2 == 0) = false := by simp; omega
        have HJ : Hid (wayB pl s leaf (k + 1) = joinB k j y x) := by show _ = _; rw [HWS.out, if_pos (by omega)]
        have HJC := Lib.hid (fun w' => (show Calls Tryd.prog 30 #[.int .i64 (k : Int), .int .i64 (j : Int), .agg (y.map (Value.int .u8)).toArray, .agg (x.map (Value.int .u8)).toArray] w' fun e w'' => e = .returned (.agg (hvA (joinB k j y x))) ∧ Below w'.heap.size w' w'' from rjoin_any k j y x w' HY16.out HX16.out))
        go_upto_region 10 with (fail)
        clear hp1 k4 hd1
        refine wp_region_held_drew (S := fun w' => w'.heap[w.heap.size + 1 + 1]? = some (.cells (siA leaf (.slice sp1 68 c1) (.slice (some ⟨sb, so, none⟩) h c2)) 37 (0, 0)) ∧ w'.rangeAt sb (so + k * 16) (y.map (Value.int .u8))) (by kernel_rfl) ⟨HSsr.out, HYR.out⟩ (fun hHeld => ?_)
        refine wpAnyH_take (i := 0) (oi := _) (v := ?v0n3) rfl (by kernel_rfl) (by kernel_rfl) (by kernel_rfl) (fun _ _ _ h => h) (Or.inl ⟨by rfl, ?hy0n3⟩) (by assumption) ?rest0n3
        case hy0n3 =>
          intro w' hSw
          go_simp
          try with_reducible rfl
        try simp only [Act.put, List.getElem_toArray, List.getElem_cons_succ, List.getElem_cons_zero, List.setIfInBounds_toArray, List.set_cons_zero, List.set_cons_succ]
        refine wpAnyH_take (i := 1) (oi := _) (v := ?v1n4) rfl (by kernel_rfl) (by kernel_rfl) (by kernel_rfl) (fun _ _ _ h => h) (Or.inl ⟨by rfl, ?hy1n4⟩) (by assumption) ?rest1n4
        case hy1n4 =>
          intro w' hSw
          go_simp
          try with_reducible rfl
        try simp only [Act.put, List.getElem_toArray, List.getElem_cons_succ, List.getElem_cons_zero, List.setIfInBounds_toArray, List.set_cons_zero, List.set_cons_succ]
        refine wpAnyH_take (i := 2) (oi := _) (v := ?v2n5) rfl (by kernel_rfl) (by kernel_rfl) (by kernel_rfl) (fun _ _ _ h => h) (Or.inl ⟨by rfl, ?hy2n5⟩) (by assumption) ?rest2n5
        case hy2n5 =>
          intro w' hSw
          go_simp
          try with_reducible rfl
        try simp only [Act.put, List.getElem_toArray, List.getElem_cons_succ, List.getElem_cons_zero, List.setIfInBounds_toArray, List.set_cons_zero, List.set_cons_succ]
        refine wpAnyH_take (i := 3) (oi := _) (v := ?v3n6) rfl (by kernel_rfl) (by kernel_rfl) (by kernel_rfl) (fun _ _ _ h => h) (Or.inl ⟨by rfl, ?hy3n6⟩) (by assumption) ?rest3n6
        case hy3n6 =>
          intro w' hSw
          go_simp
          try with_reducible rfl
        try simp only [Act.put, List.getElem_toArray, List.getElem_cons_succ, List.getElem_cons_zero, List.setIfInBounds_toArray, List.set_cons_zero, List.set_cons_succ]
        refine wpAnyH_take (i := 4) (oi := _) (v := ?v4n7) rfl (by kernel_rfl) (by kernel_rfl) (by kernel_rfl) (fun _ _ _ h => h) (Or.inl ⟨by rfl, ?hy4n7⟩) (by assumption) ?rest4n7
        case hy4n7 =>
          intro w' hSw
          have c1 := si_p hSw.1
          go_simp
          try with_reducible rfl
        try simp only [Act.put, List.getElem_toArray, List.getElem_cons_succ, List.getElem_cons_zero, List.setIfInBounds_toArray, List.set_cons_zero, List.set_cons_succ]
        refine wpAnyH_take (i := 5) (oi := _) (v := ?v5n8) rfl (by kernel_rfl) (by kernel_rfl) (by kernel_rfl) (fun _ _ _ h => h) (Or.inl ⟨by rfl, ?hy5n8⟩) (by assumption) ?rest5n8
        case hy5n8 =>
          intro w' hSw
          go_simp
          try with_reducible rfl
        try simp only [Act.put, List.getElem_toArray, List.getElem_cons_succ, List.getElem_cons_zero, List.setIfInBounds_toArray, List.set_cons_zero, List.set_cons_succ]
        refine wpAnyH_take (i := 6) (oi := _) (v := ?v6n9) rfl (by kernel_rfl) (by kernel_rfl) (by kernel_rfl) (fun _ _ _ h => h) (Or.inl ⟨by rfl, ?hy6n9⟩) (by assumption) ?rest6n9
        case hy6n9 =>
          intro w' hSw
          go_simp
          try with_reducible rfl
        try simp only [Act.put, List.getElem_toArray, List.getElem_cons_succ, List.getElem_cons_zero, List.setIfInBounds_toArray, List.set_cons_zero, List.set_cons_succ]
        refine' wpAnyH_take (i := 7) (oi := _) (v := _) rfl (by kernel_rfl) (by kernel_rfl) (by kernel_rfl) (fun _ _ _ h => h) (yieldsIf_load_mid (by rfl) _ _ rfl _ _ rfl _ _ ?hS7n10 Tryd.underlying23 rfl HIY.out) (by assumption) ?rest7n10
        case hS7n10 =>
          intro w' hSw
          exact hSw.2
        try simp only [Act.put, List.getElem_toArray, List.getElem_cons_succ, List.getElem_cons_zero, List.setIfInBounds_toArray, List.set_cons_zero, List.set_cons_succ]
        refine wpAnyH_ready (rs := [8]) (by kernel_rfl) (by simp) (AllReadyH.cons (o := _) rfl (fun K hK => ?_) AllReadyH.nil)
        rw [if_pos (by rfl)]
        refine wp_load_mid 23 _ rfl gn 0 rfl _ _ HNQ.out Tryd.underlying23 rfl HIX.out ?_
        skip
        refine hK.out _ _ ⟨HSsr.out, HYR.out⟩ (fun hHeld => ?_)
        clear hK K
        try simp only [Act.put, List.getElem_toArray, List.getElem_cons_succ, List.getElem_cons_zero, List.setIfInBounds_toArray, List.set_cons_zero, List.set_cons_succ]
        refine wpAnyH_ready (rs := [9]) (by kernel_rfl) (by simp) (AllReadyH.cons (o := _) rfl (fun K hK => ?_) AllReadyH.nil)
        go_simp
        with_reducible refine (HJC.out _).mono ?_
        rintro e wc ⟨rfl, hbc⟩
        have HEc : Hid (Below wr.heap.size wr wc) := (Below.refl _ _).drew.trans hbc
        clear hbc
        have HNc : Hid (wc.heap[gn]? = some (.cells (hvA x) 23 (0, 0))) := (HEc.out.block _ (by omega)).trans HNR.out
        have HSc : Hid (wc.heap[w.heap.size + 1 + 1]? = some (.cells (siA leaf (.slice sp1 68 c1) (.slice (some ⟨sb, so, none⟩) h c2)) 37 (0, 0))) := (HEc.out.block _ (by omega)).trans HSsr.out
        have HYc : Hid (wc.rangeAt sb (so + k * 16) (y.map (Value.int .u8))) := range_belowG HYR.out HEc.out (by omega)
        have HBWc : Hid (Below gn w3 wc) := HBR.out.trans (HEc.out.mono (by omega))
        have hsc : gn + 1 ≤ wc.heap.size := by have := HEc.out.size; omega
        go_wp2_with fail
        refine hK.out _ _ ⟨HSc.out, HYc.out⟩ (fun hHeld => ?_)
        clear hK K
        try simp only [Act.put, List.getElem_toArray, List.getElem_cons_succ, List.getElem_cons_zero, List.setIfInBounds_toArray, List.set_cons_zero, List.set_cons_succ]
        refine wpAnyH_ready (rs := [10]) (by kernel_rfl) (by simp) (AllReadyH.cons (o := _) rfl (fun K hK => ?_) AllReadyH.nil)
        rw [if_pos (by rfl)]
        refine wp_store_row 23 _ _ rfl gn (hvA (joinB k j y x)) rfl rfl 23 _ HNc.out (info_h (joinB_H16 _ _ _ _)) (by simp [hvA, HX16.out.1, (joinB_H16 (k : Int) (j : Int) y x).1]) (one_h _) ?_
        generalize hwd : World.setRow wc _ _ = wd
        have HNd : Hid (wd.heap[gn]? = some (.cells (hvA (joinB k j y x)) 23 (0, 0))) := by rw [← hwd]; exact setRow_heap _ _ _ _ _ _ HNc.out
        have HSd : Hid (wd.heap[w.heap.size + 1 + 1]? = some (.cells (siA leaf (.slice sp1 68 c1) (.slice (some ⟨sb, so, none⟩) h c2)) 37 (0, 0))) := by rw [← hwd]; exact (setRow_other _ _ _ _ (by omega)).trans HSc.out
        have HBd : Hid (Below gn w3 wd) := by rw [← hwd]; exact below_setRow HBWc.out (Nat.le_refl _) _
        have hsd : gn + 1 ≤ wd.heap.size := by rw [← hwd]; simp [World.setRow]; omega
        have HYd : Hid (wd.rangeAt sb (so + k * 16) (y.map (Value.int .u8))) := range_belowG HYR0.out HBd.out (by omega)
        clear hwd
        skip
        refine hK.out _ _ ⟨HSd.out, HYd.out⟩ (fun hHeld => ?_)
        clear hK K
        try simp only [Act.put, List.getElem_toArray, List.getElem_cons_succ, List.getElem_cons_zero, List.setIfInBounds_toArray, List.set_cons_zero, List.set_cons_succ]
        refine wpAnyH_done (by kernel_rfl) ?_ _
        go_wp2_with fail
        go_roundw
        case rel => exact ⟨k + 1, by omega, by rw [HJS.out], by go_num, by rw [HJ.out]; exact HNd.out, HBd.out, hsd⟩
        case measure => simp [intOf]; omega
      · have hp1 : ((i : Int) % 2 == 0) = true := by simp; omega
        have HJ : Hid (wayB pl s leaf (k + 1) = joinB k j x y) := by show _ = _; rw [HWS.out, if_neg (by omega)]
        have HJC := Lib.hid (fun w' => (show Calls Tryd.prog 30 #[.int .i64 (k : Int), .int .i64 (j : Int), .agg (x.map (Value.int .u8)).toArray, .agg (y.map (Value.int .u8)).toArray] w' fun e w'' => e = .returned (.agg (hvA (joinB k j x y))) ∧ Below w'.heap.size w' w'' from rjoin_any k j x y w' HX16.out HY16.out))
        go_upto_region 9 with (fail)
        clear hp1 k4 hd1
        refine wp_region_held_drew (S := fun w' => w'.heap[w.heap.size + 1 + 1]? = some (.cells (siA leaf (.slice sp1 68 c1) (.slice (some ⟨sb, so, none⟩) h c2)) 37 (0, 0)) ∧ w'.rangeAt sb (so + k * 16) (y.map (Value.int .u8))) (by kernel_rfl) ⟨HSsr.out, HYR.out⟩ (fun hHeld => ?_)
        refine wpAnyH_take (i := 0) (oi := _) (v := ?v0n11) rfl (by kernel_rfl) (by kernel_rfl) (by kernel_rfl) (fun _ _ _ h => h) (Or.inl ⟨by rfl, ?hy0n11⟩) (by assumption) ?rest0n11
        case hy0n11 =>
          intro w' hSw
          go_simp
          try with_reducible rfl
        try simp only [Act.put, List.getElem_toArray, List.getElem_cons_succ, List.getElem_cons_zero, List.setIfInBounds_toArray, List.set_cons_zero, List.set_cons_succ]
        refine wpAnyH_take (i := 1) (oi := _) (v := ?v1n12) rfl (by kernel_rfl) (by kernel_rfl) (by kernel_rfl) (fun _ _ _ h => h) (Or.inl ⟨by rfl, ?hy1n12⟩) (by assumption) ?rest1n12
        case hy1n12 =>
          intro w' hSw
          go_simp
          try with_reducible rfl
        try simp only [Act.put, List.getElem_toArray, List.getElem_cons_succ, List.getElem_cons_zero, List.setIfInBounds_toArray, List.set_cons_zero, List.set_cons_succ]
        refine wpAnyH_take (i := 2) (oi := _) (v := ?v2n13) rfl (by kernel_rfl) (by kernel_rfl) (by kernel_rfl) (fun _ _ _ h => h) (Or.inl ⟨by rfl, ?hy2n13⟩) (by assumption) ?rest2n13
        case hy2n13 =>
          intro w' hSw
          go_simp
          try with_reducible rfl
        try simp only [Act.put, List.getElem_toArray, List.getElem_cons_succ, List.getElem_cons_zero, List.setIfInBounds_toArray, List.set_cons_zero, List.set_cons_succ]
        refine wpAnyH_take (i := 4) (oi := _) (v := ?v4n14) rfl (by kernel_rfl) (by kernel_rfl) (by kernel_rfl) (fun _ _ _ h => h) (Or.inl ⟨by rfl, ?hy4n14⟩) (by assumption) ?rest4n14
        case hy4n14 =>
          intro w' hSw
          go_simp
          try with_reducible rfl
        try simp only [Act.put, List.getElem_toArray, List.getElem_cons_succ, List.getElem_cons_zero, List.setIfInBounds_toArray, List.set_cons_zero, List.set_cons_succ]
        refine wpAnyH_take (i := 5) (oi := _) (v := ?v5n15) rfl (by kernel_rfl) (by kernel_rfl) (by kernel_rfl) (fun _ _ _ h => h) (Or.inl ⟨by rfl, ?hy5n15⟩) (by assumption) ?rest5n15
        case hy5n15 =>
          intro w' hSw
          have c1 := si_p hSw.1
          go_simp
          try with_reducible rfl
        try simp only [Act.put, List.getElem_toArray, List.getElem_cons_succ, List.getElem_cons_zero, List.setIfInBounds_toArray, List.set_cons_zero, List.set_cons_succ]
        refine wpAnyH_take (i := 6) (oi := _) (v := ?v6n16) rfl (by kernel_rfl) (by kernel_rfl) (by kernel_rfl) (fun _ _ _ h => h) (Or.inl ⟨by rfl, ?hy6n16⟩) (by assumption) ?rest6n16
        case hy6n16 =>
          intro w' hSw
          go_simp
          try with_reducible rfl
        try simp only [Act.put, List.getElem_toArray, List.getElem_cons_succ, List.getElem_cons_zero, List.setIfInBounds_toArray, List.set_cons_zero, List.set_cons_succ]
        refine wpAnyH_take (i := 7) (oi := _) (v := ?v7n17) rfl (by kernel_rfl) (by kernel_rfl) (by kernel_rfl) (fun _ _ _ h => h) (Or.inl ⟨by rfl, ?hy7n17⟩) (by assumption) ?rest7n17
        case hy7n17 =>
          intro w' hSw
          go_simp
          try with_reducible rfl
        try simp only [Act.put, List.getElem_toArray, List.getElem_cons_succ, List.getElem_cons_zero, List.setIfInBounds_toArray, List.set_cons_zero, List.set_cons_succ]
        refine' wpAnyH_take (i := 8) (oi := _) (v := _) rfl (by kernel_rfl) (by kernel_rfl) (by kernel_rfl) (fun _ _ _ h => h) (yieldsIf_load_mid (by rfl) _ _ rfl _ _ rfl _ _ ?hS8n18 Tryd.underlying23 rfl HIY.out) (by assumption) ?rest8n18
        case hS8n18 =>
          intro w' hSw
          exact hSw.2
        try simp only [Act.put, List.getElem_toArray, List.getElem_cons_succ, List.getElem_cons_zero, List.setIfInBounds_toArray, List.set_cons_zero, List.set_cons_succ]
        refine wpAnyH_ready (rs := [3]) (by kernel_rfl) (by simp) (AllReadyH.cons (o := _) rfl (fun K hK => ?_) AllReadyH.nil)
        rw [if_pos (by rfl)]
        refine wp_load_mid 23 _ rfl gn 0 rfl _ _ HNQ.out Tryd.underlying23 rfl HIX.out ?_
        skip
        refine hK.out _ _ ⟨HSsr.out, HYR.out⟩ (fun hHeld => ?_)
        clear hK K
        try simp only [Act.put, List.getElem_toArray, List.getElem_cons_succ, List.getElem_cons_zero, List.setIfInBounds_toArray, List.set_cons_zero, List.set_cons_succ]
        refine wpAnyH_ready (rs := [9]) (by kernel_rfl) (by simp) (AllReadyH.cons (o := _) rfl (fun K hK => ?_) AllReadyH.nil)
        go_simp
        with_reducible refine (HJC.out _).mono ?_
        rintro e wc ⟨rfl, hbc⟩
        have HEc : Hid (Below wr.heap.size wr wc) := (Below.refl _ _).drew.trans hbc
        clear hbc
        have HNc : Hid (wc.heap[gn]? = some (.cells (hvA x) 23 (0, 0))) := (HEc.out.block _ (by omega)).trans HNR.out
        have HSc : Hid (wc.heap[w.heap.size + 1 + 1]? = some (.cells (siA leaf (.slice sp1 68 c1) (.slice (some ⟨sb, so, none⟩) h c2)) 37 (0, 0))) := (HEc.out.block _ (by omega)).trans HSsr.out
        have HYc : Hid (wc.rangeAt sb (so + k * 16) (y.map (Value.int .u8))) := range_belowG HYR.out HEc.out (by omega)
        have HBWc : Hid (Below gn w3 wc) := HBR.out.trans (HEc.out.mono (by omega))
        have hsc : gn + 1 ≤ wc.heap.size := by have := HEc.out.size; omega
        go_wp2_with fail
        refine hK.out _ _ ⟨HSc.out, HYc.out⟩ (fun hHeld => ?_)
        clear hK K
        try simp only [Act.put, List.getElem_toArray, List.getElem_cons_succ, List.getElem_cons_zero, List.setIfInBounds_toArray, List.set_cons_zero, List.set_cons_succ]
        refine wpAnyH_ready (rs := [10]) (by kernel_rfl) (by simp) (AllReadyH.cons (o := _) rfl (fun K hK => ?_) AllReadyH.nil)
        rw [if_pos (by rfl)]
        refine wp_store_row 23 _ _ rfl gn (hvA (joinB k j x y)) rfl rfl 23 _ HNc.out (info_h (joinB_H16 _ _ _ _)) (by simp [hvA, HX16.out.1, (joinB_H16 (k : Int) (j : Int) x y).1]) (one_h _) ?_
        generalize hwd : World.setRow wc _ _ = wd
        have HNd : Hid (wd.heap[gn]? = some (.cells (hvA (joinB k j x y)) 23 (0, 0))) := by rw [← hwd]; exact setRow_heap _ _ _ _ _ _ HNc.out
        have HSd : Hid (wd.heap[w.heap.size + 1 + 1]? = some (.cells (siA leaf (.slice sp1 68 c1) (.slice (some ⟨sb, so, none⟩) h c2)) 37 (0, 0))) := by rw [← hwd]; exact (setRow_other _ _ _ _ (by omega)).trans HSc.out
        have HBd : Hid (Below gn w3 wd) := by rw [← hwd]; exact below_setRow HBWc.out (Nat.le_refl _) _
        have hsd : gn + 1 ≤ wd.heap.size := by rw [← hwd]; simp [World.setRow]; omega
        have HYd : Hid (wd.rangeAt sb (so + k * 16) (y.map (Value.int .u8))) := range_belowG HYR0.out HBd.out (by omega)
        clear hwd
        skip
        refine hK.out _ _ ⟨HSd.out, HYd.out⟩ (fun hHeld => ?_)
        clear hK K
        try simp only [Act.put, List.getElem_toArray, List.getElem_cons_succ, List.getElem_cons_zero, List.setIfInBounds_toArray, List.set_cons_zero, List.set_cons_succ]
        refine wpAnyH_done (by kernel_rfl) ?_ _
        go_wp2_with fail
        go_roundw
        case rel => exact ⟨k + 1, by omega, by rw [HJS.out], by go_num, by rw [HJ.out]; exact HNd.out, HBd.out, hsd⟩
        case measure => simp [intOf]; omega
    · obtain rfl : k = h := by omega
      have hd1 : decide ((k : Int) < (k : Int)) = false := by simp
      have HSsr : Hid (wr.heap[w.heap.size + 1 + 1]? = some (.cells (siA leaf (.slice sp1 68 c1) (.slice sp2 k c2)) 37 (0, 0))) := (HBR.out.block _ (by omega)).trans HSs3.out
      have k4 := si_p HSsr.out
      have HSkr : Hid (wr.heap[w.heap.size]? = some (.cells (pkA k r) 31 (0, 0))) := (HBR.out.block _ (by omega)).trans HSk3.out
      have HRr := Lib.hid (pk_r HSkr.out)
      have HIW := Lib.hid (wayB_H16 (p := pl) HS16.out leaf k)
      have HNQ : Hid (wr.rangeAt gn 0 ((wayB pl s leaf k).map (Value.int .u8))) := row_rngK HNR.out
      have heq := HEQ.out wr
      rw [HSR.out] at heq
      go_wp2_with (first
        | (refine wpList_load_mid_gK (by rfl) 23 _ rfl gn 0 rfl _ _ HNQ.out Tryd.underlying23 rfl (info_h2' HIW.out) ?_)
        | (refine wpList_load_mid_gK (by rfl) 23 _ rfl w.heap.size 1 rfl _ _ HRr.out Tryd.underlying23 rfl HIR.out ?_))
      go_ret
      refine ⟨?_, HBW3.out.trans (HBR.out.mono (by omega))⟩
      rw [HSR.out]
      rfl
theorem rverify_any (h : Int) (r d : List Int) (l : Int) (sp1 : Option Addr) (n c1 : Nat) (sp2 : Option Addr) (m c2 : Nat) (cl pl : List (List Int)) (w : World) (hr : H16 r) (hd : D32 d) (hc : HvsIn w w.heap.size sp1 n c1 cl) (hp : HvsIn w w.heap.size sp2 m c2 pl) :
    Calls Tryd.prog 10 #[.agg (pkA h r), .agg (dgA d), .agg (siA l (.slice sp1 n c1) (.slice sp2 m c2))] w fun e w' => e = .returned (.bool (vfyB h r d l n m cl pl)) ∧ Below w.heap.size w w' := by
  by_cases hs : shpB h l n m = true
  · have hs2 := hs
    unfold shpB at hs2
    obtain ⟨⟨h0, h6⟩, l0, l1, rfl, hm⟩ := of_decide_eq_true hs2
    obtain ⟨k, rfl⟩ : ∃ k : Nat, h = (k : Int) := ⟨h.toNat, by omega⟩
    obtain ⟨leaf, rfl⟩ : ∃ leaf : Nat, l = (leaf : Int) := ⟨l.toNat, by omega⟩
    obtain rfl : m = k := by omega
    unfold lvN at l1
    rw [Int.toNat_natCast] at l1
    have hv := rverify_yes m r d leaf sp1 c1 sp2 c2 cl pl w hr hd (by omega) (by omega) hc hp
    unfold vfyB
    rw [hs, Bool.true_and, Int.toNat_natCast, Int.toNat_natCast]
    exact hv
  · have hs2 : shpB h l n m = false := by simpa using hs
    unfold vfyB
    rw [hs2, Bool.false_and]
    exact rverify_no h r d l sp1 n c1 sp2 m c2 w hr hs2
end Go.Proofs.YtbfgkbcpkldofaaDoor
