/-
  The walk of KeytreeSigns (condition: the table of constants reads as it is laid).
-/
import Derived.Test.YthbcpcddanknhaaDoorKeyRe
namespace Go.Proofs.YthbcpcddanknhaaDoor
open Go.RowKit Go.Proofs.YthbcpcddanknhaaDoor.One

theorem wpList_eqK {ops : Array Oper} {rest : List Oper} {o : Oper} {a : Act} {w : World} {Q : Exit → Act → World → Prop} (hw : Region.wanted o (yielded ops a.tmps) = true) (t : TypeId) (x y : Operand) (ho : o.op = .binOp .eql t x y t) (V : Array Value)
    (hg : Tryd.prog.eqGuardType Tryd.prog.depth t = false) (hq : (Op.equalIn 10000 t (.agg V) (.agg V)).run Tryd.prog w = .ok true w) (hx : a.eval x = .agg V) (hy : a.eval y = .agg V)
    (h : wpList Tryd.prog ops Q rest (a.put o.dst (.bool true)) w) : wpList Tryd.prog ops Q (o :: rest) a w :=
  wpList_step fun K hK => by
    rw [if_pos hw]
    unfold Oper.wp
    rw [exec_eqK hg hq ho hx hy]
    exact hK _ _ h
theorem sgA_set16 {x : List Int} (hx : H16 x) (h n m : Int) : (sgA x h n).setIfInBounds 16 (.int .i64 m) = sgA x m n := by
  unfold sgA sgL
  rw [List.setIfInBounds_toArray, List.set_append_right _ _ (by rw [List.length_map, hx.1]; exact Nat.le_refl _), List.length_map, hx.1]; rfl
/-- what both Signs answer -/
structure SaB (x : List Int) (h n : Int) (d : List Int) (x1 : List Int) (h1 n1 l1 E : Int) (N M : Nat) (cl pl : List (List Int)) : Prop where
  hx : H16 x1
  hn : N ≤ 1000
  hm : M ≤ 1000
  hc : cl.length = N
  hp : pl.length = M
  a : ∀ w, KayIn w → 0 < w.heap.size → Calls Tryd.prog 19 #[.agg (sgA x h n), .agg (dgA d)] w fun e w' => ∃ sp1 c1 sp2 c2, e = .returned (.tuple #[.agg (sgA x1 h1 n1), .agg (siA l1 (.slice sp1 N c1) (.slice sp2 M c2)), .int .i64 E]) ∧ OwnHv w' w.heap.size (.slice sp1 N c1) cl ∧ OwnHv w' w.heap.size (.slice sp2 M c2) pl ∧ Below w.heap.size w w'
  b : ∀ w, Calls Tryd.prog 20 #[.agg (sgA x h n), .agg (dgA d)] w fun e w' => ∃ sp1 c1 sp2 c2, e = .returned (.tuple #[.agg (sgA x1 h1 n1), .agg (siA l1 (.slice sp1 N c1) (.slice sp2 M c2)), .int .i64 E]) ∧ OwnHv w' w.heap.size (.slice sp1 N c1) cl ∧ OwnHv w' w.heap.size (.slice sp2 M c2) pl ∧ Below w.heap.size w w'
set_option maxRecDepth 100000 in
theorem sign_both (x : List Int) (h n : Int) (d : List Int) (hx : H16 x) (hd : D32 d) : ∃ (x1 : List Int) (h1 n1 l1 E : Int) (N M : Nat) (cl pl : List (List Int)), SaB x h n d x1 h1 n1 l1 E N M cl pl := by
  by_cases hv : hgtB h = false ∨ n < 0
  · refine ⟨zh16, 0, 0, 0, 1, 0, 0, [], [], zh16_H16, by omega, by omega, rfl, rfl, fun w hk hk0 => ?_, fun w => ?_⟩
    · exact (sign_inv x h n d w hx hd hv).mono fun e w' ⟨he, hb⟩ => ⟨none, 0, none, 0, he, OwnHv.nil _ _, OwnHv.nil _ _, hb⟩
    · exact (rsign_inv x h n d w hx hv).mono fun e w' ⟨he, hb⟩ => ⟨none, 0, none, 0, he, OwnHv.nil _ _, OwnHv.nil _ _, hb⟩
  · obtain ⟨k, rfl, hk6⟩ : ∃ k : Nat, h = (k : Int) ∧ k ≤ 6 := by
      have h1 : ¬ hgtB h = false := fun e => hv (.inl e)
      unfold hgtB at h1
      have h2 : 0 ≤ h ∧ h ≤ 6 := by simpa using h1
      exact ⟨h.toNat, by omega, by omega⟩
    have hn0 : 0 ≤ n := by have h1 : ¬ n < 0 := fun e => hv (.inr e); omega
    by_cases he : lvN k ≤ n
    · refine ⟨zh16, 0, 0, 0, 13, 0, 0, [], [], zh16_H16, by omega, by omega, rfl, rfl, fun w hk hk0 => ?_, fun w => ?_⟩
      · exact (sign_exh x k n d w hx hd hk6 he).mono fun e w' ⟨he, hb⟩ => ⟨none, 0, none, 0, he, OwnHv.nil _ _, OwnHv.nil _ _, hb⟩
      · exact (rsign_exh x k n d w hx hk6 he).mono fun e w' ⟨he, hb⟩ => ⟨none, 0, none, 0, he, OwnHv.nil _ _, OwnHv.nil _ _, hb⟩
    · obtain ⟨leaf, rfl⟩ : ∃ leaf : Nat, n = (leaf : Int) := ⟨n.toNat, by omega⟩
      have hl : leaf < 2 ^ k := by unfold lvN at he; omega
      refine ⟨x, k, leaf + 1, leaf, 0, 68, k, sigB x leaf d, pathB x k leaf, hx, by omega, by omega, sigB_len _ _ _, pathB_len _ _ _, fun w hk hk0 => ?_, fun w => ?_⟩
      · exact (sign_ok x k leaf d w hx hd hk6 hl hk hk0).mono fun e w' ⟨spc, capc, gp, he, hc, hp, hb⟩ => ⟨spc, capc, some ⟨gp, 0, none⟩, k, he, hc, hp, hb⟩
      · exact (rsign_ok x k leaf d w hx hd hk6 hl).mono fun e w' ⟨spc, capc, spp, capp, he, hc, hp, hb⟩ => ⟨spc, capc, spp, capp, he, hc, hp, hb⟩
/-- a signer and a digest in boxes -/
structure SdBox (w : World) (x : List Int) (h n : Int) (d : List Int) (w0 : World) : Prop where
  s : w0.heap[w.heap.size]? = some (.cells (sgA x h n) 38 (0, 0))
  d : w0.heap[w.heap.size + 1]? = some (.cells (dgA d) 32 (0, 0))
  b : Below w.heap.size w w0
  k : w.heap.size + 2 ≤ w0.heap.size
theorem SdBox.new (w : World) (x : List Int) (h n : Int) (d : List Int) : SdBox w x h n d ((w.alloc (.cells (sgA x h n) 38)).alloc (.cells (dgA d) 32)) :=
  ⟨(heap_alloc_old _ _ (by simp)).trans (heap_alloc_new w _), by have h := heap_alloc_new (w.alloc (.cells (sgA x h n) 38)) (.cells (dgA d) 32); rw [World.size_alloc] at h; exact h, ((Below.refl _ _).alloc (Nat.le_refl _) _).alloc (by simp) _, by simp⟩
theorem SdBox.below {w : World} {x : List Int} {h n : Int} {d : List Int} {w1 w2 : World} (r : SdBox w x h n d w1) (hb : Below w1.heap.size w1 w2) : SdBox w x h n d w2 := by
  have h1 := r.k; have h2 := hb.size
  exact ⟨(hb.block _ (by omega)).trans r.s, (hb.block _ (by omega)).trans r.d, r.b.trans (hb.mono (by omega)), by omega⟩
set_option maxRecDepth 100000 in
set_option maxHeartbeats 8000000 in
theorem keytreeSigns_any (x : List Int) (h n : Int) (d : List Int) (w : World) (hs : H16 x) (hd : D32 d) (hk : KayIn w) (hk0 : 0 < w.heap.size) :
    Calls Tryd.prog 4 #[.agg (sgA x h n), .agg (dgA d)] w fun e w' => e = .returned (.bool true) ∧ Below w.heap.size w w' := by
  have HS := Lib.hid hs; have HD := Lib.hid hd; have HK := Lib.hid hk
  clear hs hd hk
  have HT := Lib.hid (SdBox.new w x h n d)
  go_enter Tryd.func4, Tryd.ntmps4
  go_upto_region 1 with (fail)
  generalize hw0 : World.alloc (World.alloc w _) _ = v0
  have HT0 : Hid (SdBox w x h n d v0) := by rw [← hw0]; exact HT.out
  clear hw0 HT
  have c16 := sg_h HS.out HT0.out.s
  have c17 := sg_n HS.out HT0.out.s
  by_cases h1 : h > 2
  · have q1 : decide (h > 2) = true := by simpa using h1
    by_cases h2 : h ≤ 6
    · have q2 : decide (h ≤ 6) = true := by simpa using h2
      by_cases h3 : n ≥ 0
      · have q3 : decide (n ≥ 0) = true := by simpa using h3
        by_cases h4 : n < 64
        · have q4 : decide (n < 64) = true := by simpa using h4
          have f16 := frozen_of_row _ _ 16 _ _ HT0.out.s
          go_upto_region 3 with (fail)
          clear c16 c17 f16 q1 q2 q3 q4 h1 h2 h3 h4
          generalize hw : World.setCell v0 _ _ = v
          have hk0v := HT0.out.k
          have HV : Hid (SdBox w x 2 n d v) := by
            refine ⟨?_, ?_, ?_, ?_⟩
            · rw [← hw, heap_setCell_same _ _ _ _ _ _ HT0.out.s, sgA_set16 HS.out]
            · rw [← hw]; exact (heap_setCell_other _ _ _ _ (by show w.heap.size + 1 ≠ w.heap.size; omega)).trans HT0.out.d
            · rw [← hw]; exact HT0.out.b.setCell (by show w.heap.size ≤ w.heap.size; omega) _
            · rw [← hw]; simp [World.setCell]; omega
          clear hw HT0 hk0v
          obtain ⟨x1, h1, n1, l1, E, N, M, cl, pl, hr⟩ := sign_both x 2 n d HS.out HD.out
          have HR := Lib.hid hr
          clear hr
          go_wp2_with (first | (refine wpList_load_row rfl 38 _ rfl w.heap.size rfl 38 _ (0, 0) _ HV.out.s Tryd.underlying38 rfl (info_sg HS.out) ?_) | (refine wpList_load_row rfl 32 _ rfl (w.heap.size + 1) rfl 32 _ (0, 0) _ HV.out.d Tryd.underlying32 rfl (info_dA HD.out) ?_))
          refine (HR.out.a v (HK.out.below HV.out.b hk0) (by have := HV.out.k; omega)).mono ?_
          rintro e w3 ⟨sp1, csp1, sp2, csp2, rfl, hc, hp, hb⟩
          have HC3 := Lib.hid (hc.base (Nat.zero_le _)); have HP3 := Lib.hid (hp.base (Nat.zero_le _))
          have HV3 : Hid (SdBox w x 2 n d w3) := HV.out.below hb
          clear hc hp hb HV
          have HZZ := Lib.hid (ZzBox.new w3)
          have HIS : Hid (w3.heap.size + 1 ≠ w3.heap.size) := by show _ ≠ _; omega
          go_wp2_with (first
            | (generalize hz : World.alloc (World.alloc w3 _) _ = w4; have HZ4 : Hid (ZzBox w3 w4) := (by rw [← hz]; exact HZZ.out); clear hz HZZ; have HC4 : Hid (OwnHv w4 0 (.slice sp1 N csp1) cl) := HC3.out.below HZ4.out.b; have HP4 : Hid (OwnHv w4 0 (.slice sp2 M csp2) pl) := HP3.out.below HZ4.out.b; refine wpList_store_row rfl 38 _ _ rfl w3.heap.size (sgA x1 h1 n1) rfl rfl 38 _ HZ4.out.y (info_sg HR.out.hx) (by rw [sgA_size HR.out.hx, sgA_size zh16_H16]) (one_sg _ _ _) ?_; generalize hw5 : World.setRow w4 _ _ = w5; have HY5 : Hid (w5.heap[w3.heap.size]? = some (.cells (sgA x1 h1 n1) 38 (0, 0))) := (by rw [← hw5]; exact setRow_heap _ _ _ _ _ _ HZ4.out.y); have HZ5 : Hid (w5.heap[w3.heap.size + 1]? = some (.cells (siA 0 nilS nilS) 41 (0, 0))) := (by rw [← hw5]; exact (setRow_other _ _ _ _ HIS.out).trans HZ4.out.z); have HB5 : Hid (Below w3.heap.size w3 w5) := (by rw [← hw5]; exact below_setRow HZ4.out.b (Nat.le_refl _) _); have HC5 : Hid (OwnHv w5 0 (.slice sp1 N csp1) cl) := (by rw [← hw5]; exact HC4.out.setRow HZ4.out.y ne_sg _); have HP5 : Hid (OwnHv w5 0 (.slice sp2 M csp2) pl) := (by rw [← hw5]; exact HP4.out.setRow HZ4.out.y ne_sg _); have hz5 : w3.heap.size + 2 ≤ w5.heap.size := (by rw [← hw5]; simp [World.setRow]; have := HZ4.out.k; omega); clear hw5 HC4 HP4 HZ4)
            | (refine wpList_store_row rfl 41 _ _ rfl (w3.heap.size + 1) (siA l1 (.slice sp1 N csp1) (.slice sp2 M csp2)) rfl rfl 41 _ HZ5.out (info_si _ _ _) rfl (one_si _ _ _ _ _ _ _) ?_; generalize hw6 : World.setRow w5 _ _ = w6; have HYA : Hid (w6.heap[w3.heap.size]? = some (.cells (sgA x1 h1 n1) 38 (0, 0))) := (by rw [← hw6]; exact (setRow_other _ _ _ _ (Ne.symm HIS.out)).trans HY5.out); have HZA : Hid (w6.heap[w3.heap.size + 1]? = some (.cells (siA l1 (.slice sp1 N csp1) (.slice sp2 M csp2)) 41 (0, 0))) := (by rw [← hw6]; exact setRow_heap _ _ _ _ _ _ HZ5.out); have HBA : Hid (Below w3.heap.size w3 w6) := (by rw [← hw6]; exact below_setRow HB5.out (Nat.le_succ _) _); have HCA : Hid (OwnHv w6 0 (.slice sp1 N csp1) cl) := (by rw [← hw6]; exact HC5.out.setRow HZ5.out ne_si _); have HPA : Hid (OwnHv w6 0 (.slice sp2 M csp2) pl) := (by rw [← hw6]; exact HP5.out.setRow HZ5.out ne_si _); have hzA : w3.heap.size + 2 ≤ w6.heap.size := (by rw [← hw6]; simp [World.setRow]; omega); clear hw6 HY5 HZ5 HB5 HC5 HP5 hz5; have HV6 : Hid (SdBox w x 2 n d w6) := HV3.out.below HBA.out)
            | (refine wpList_load_row rfl 38 _ rfl w.heap.size rfl 38 _ (0, 0) _ HV6.out.s Tryd.underlying38 rfl (info_sg HS.out) ?_)
            | (refine wpList_load_row rfl 32 _ rfl (w.heap.size + 1) rfl 32 _ (0, 0) _ HV6.out.d Tryd.underlying32 rfl (info_dA HD.out) ?_))
          have hk3 := HV3.out.k
          clear HC3 HP3 HV3 HBA HIS
          generalize w3.heap.size = ga at *
          generalize w6 = vA at *
          refine (HR.out.b vA).mono ?_
          rintro e w7 ⟨sq1, csq1, sq2, csq2, rfl, hc, hp, hb⟩
          have HC3 := Lib.hid (hc.base (Nat.zero_le _)); have HP3 := Lib.hid (hp.base (Nat.zero_le _))
          have HV7 : Hid (SdBox w x 2 n d w7) := HV6.out.below hb
          have HY7 : Hid (w7.heap[ga]? = some (.cells (sgA x1 h1 n1) 38 (0, 0))) := (hb.block _ (by omega)).trans HYA.out
          have HZ7 : Hid (w7.heap[ga + 1]? = some (.cells (siA l1 (.slice sp1 N csp1) (.slice sp2 M csp2)) 41 (0, 0))) := (hb.block _ (by omega)).trans HZA.out
          have HC7 : Hid (OwnHv w7 0 (.slice sp1 N csp1) cl) := HCA.out.below hb
          have HP7 : Hid (OwnHv w7 0 (.slice sp2 M csp2) pl) := HPA.out.below hb
          have hs7 := hb.size
          clear hc hp hb HV6 HYA HZA HCA HPA
          have HZZ := Lib.hid (ZzBox.new w7)
          have HIS : Hid (w7.heap.size + 1 ≠ w7.heap.size) := by show _ ≠ _; omega
          go_wp2_with (first
            | (generalize hz : World.alloc (World.alloc w7 _) _ = w4; have HZ4 : Hid (ZzBox w7 w4) := (by rw [← hz]; exact HZZ.out); clear hz HZZ; have HC4 : Hid (OwnHv w4 0 (.slice sq1 N csq1) cl) := HC3.out.below HZ4.out.b; have HP4 : Hid (OwnHv w4 0 (.slice sq2 M csq2) pl) := HP3.out.below HZ4.out.b; refine wpList_store_row rfl 38 _ _ rfl w7.heap.size (sgA x1 h1 n1) rfl rfl 38 _ HZ4.out.y (info_sg HR.out.hx) (by rw [sgA_size HR.out.hx, sgA_size zh16_H16]) (one_sg _ _ _) ?_; generalize hw5 : World.setRow w4 _ _ = w5; have HY5 : Hid (w5.heap[w7.heap.size]? = some (.cells (sgA x1 h1 n1) 38 (0, 0))) := (by rw [← hw5]; exact setRow_heap _ _ _ _ _ _ HZ4.out.y); have HZ5 : Hid (w5.heap[w7.heap.size + 1]? = some (.cells (siA 0 nilS nilS) 41 (0, 0))) := (by rw [← hw5]; exact (setRow_other _ _ _ _ HIS.out).trans HZ4.out.z); have HB5 : Hid (Below w7.heap.size w7 w5) := (by rw [← hw5]; exact below_setRow HZ4.out.b (Nat.le_refl _) _); have HC5 : Hid (OwnHv w5 0 (.slice sq1 N csq1) cl) := (by rw [← hw5]; exact HC4.out.setRow HZ4.out.y ne_sg _); have HP5 : Hid (OwnHv w5 0 (.slice sq2 M csq2) pl) := (by rw [← hw5]; exact HP4.out.setRow HZ4.out.y ne_sg _); have hz5 : w7.heap.size + 2 ≤ w5.heap.size := (by rw [← hw5]; simp [World.setRow]; have := HZ4.out.k; omega); clear hw5 HC4 HP4 HZ4)
            | (refine wpList_store_row rfl 41 _ _ rfl (w7.heap.size + 1) (siA l1 (.slice sq1 N csq1) (.slice sq2 M csq2)) rfl rfl 41 _ HZ5.out (info_si _ _ _) rfl (one_si _ _ _ _ _ _ _) ?_; generalize hw6 : World.setRow w5 _ _ = w6; have HYB : Hid (w6.heap[w7.heap.size]? = some (.cells (sgA x1 h1 n1) 38 (0, 0))) := (by rw [← hw6]; exact (setRow_other _ _ _ _ (Ne.symm HIS.out)).trans HY5.out); have HZB : Hid (w6.heap[w7.heap.size + 1]? = some (.cells (siA l1 (.slice sq1 N csq1) (.slice sq2 M csq2)) 41 (0, 0))) := (by rw [← hw6]; exact setRow_heap _ _ _ _ _ _ HZ5.out); have HBB : Hid (Below w7.heap.size w7 w6) := (by rw [← hw6]; exact below_setRow HB5.out (Nat.le_succ _) _); have HCB : Hid (OwnHv w6 0 (.slice sq1 N csq1) cl) := (by rw [← hw6]; exact HC5.out.setRow HZ5.out ne_si _); have HPB : Hid (OwnHv w6 0 (.slice sq2 M csq2) pl) := (by rw [← hw6]; exact HP5.out.setRow HZ5.out ne_si _); have hzB : w7.heap.size + 2 ≤ w6.heap.size := (by rw [← hw6]; simp [World.setRow]; omega); clear hw6 HY5 HZ5 HB5 HC5 HP5 hz5))
          have HV9 : Hid (SdBox w x 2 n d w6) := HV7.out.below HBB.out
          have HY9 : Hid (w6.heap[ga]? = some (.cells (sgA x1 h1 n1) 38 (0, 0))) := (HBB.out.block _ (by omega)).trans HY7.out
          have HZ9 : Hid (w6.heap[ga + 1]? = some (.cells (siA l1 (.slice sp1 N csp1) (.slice sp2 M csp2)) 41 (0, 0))) := (HBB.out.block _ (by omega)).trans HZ7.out
          have HC9 : Hid (OwnHv w6 0 (.slice sp1 N csp1) cl) := HC7.out.below HBB.out
          have HP9 : Hid (OwnHv w6 0 (.slice sp2 M csp2) pl) := HP7.out.below HBB.out
          have hk9 := HV9.out.k
          have hga : ga + 2 ≤ w7.heap.size := by omega
          clear HC3 HP3 HV7 HY7 HZ7 HC7 HP7 HIS HBB hs7 hzA
          generalize w7.heap.size = gb at *
          generalize w6 = vB at *
          refine (awake_any vB (HK.out.below HV9.out.b hk0) (by omega)).mono ?_
          rintro e w8 ⟨rfl, hb⟩
          have HVf : Hid (SdBox w x 2 n d w8) := HV9.out.below hb
          have HYa : Hid (w8.heap[ga]? = some (.cells (sgA x1 h1 n1) 38 (0, 0))) := (hb.block _ (by omega)).trans HY9.out
          have HZa : Hid (w8.heap[ga + 1]? = some (.cells (siA l1 (.slice sp1 N csp1) (.slice sp2 M csp2)) 41 (0, 0))) := (hb.block _ (by omega)).trans HZ9.out
          have HYb : Hid (w8.heap[gb]? = some (.cells (sgA x1 h1 n1) 38 (0, 0))) := (hb.block _ (by omega)).trans HYB.out
          have HZb : Hid (w8.heap[gb + 1]? = some (.cells (siA l1 (.slice sq1 N csq1) (.slice sq2 M csq2)) 41 (0, 0))) := (hb.block _ (by omega)).trans HZB.out
          have HCa : Hid (OwnHv w8 0 (.slice sp1 N csp1) cl) := HC9.out.below hb
          have HPa : Hid (OwnHv w8 0 (.slice sp2 M csp2) pl) := HP9.out.below hb
          have HCb : Hid (OwnHv w8 0 (.slice sq1 N csq1) cl) := HCB.out.below hb
          have HPb : Hid (OwnHv w8 0 (.slice sq2 M csq2) pl) := HPB.out.below hb
          clear hb HV9 HY9 HZ9 HC9 HP9 HYB HZB HCB HPB
          have HRa := Lib.hid (row_rngK HYa.out); have HRb := Lib.hid (row_rngK HYb.out)
          have HQa := Lib.hid (row_rngK (L := siL l1 (.slice sp1 N csp1) (.slice sp2 M csp2)) HZa.out)
          have HQb := Lib.hid (row_rngK (L := siL l1 (.slice sq1 N csq1) (.slice sq2 M csq2)) HZb.out)
          have qE : (E == E) = true := by simp
          go_wp2_with (first
            | (refine wpList_load_mid_gK (by rfl) 38 _ rfl ga 0 rfl _ _ HRa.out Tryd.underlying38 rfl (info_sgL HR.out.hx) ?_)
            | (refine wpList_load_mid_gK (by rfl) 38 _ rfl gb 0 rfl _ _ HRb.out Tryd.underlying38 rfl (info_sgL HR.out.hx) ?_)
            | (refine wpList_eqK (by rfl) 38 _ _ rfl (sgA x1 h1 n1) (by kernel_rfl) (eqSg x1 h1 n1 HR.out.hx _) rfl rfl ?_)
            | (refine wpList_load_mid_gK (by rfl) 41 _ rfl (ga + 1) 0 rfl _ _ HQa.out Tryd.underlying41 rfl (info_siL l1 (.slice sp1 N csp1) (.slice sp2 M csp2)) ?_)
            | (refine wpList_load_mid_gK (by rfl) 41 _ rfl (gb + 1) 0 rfl _ _ HQb.out Tryd.underlying41 rfl (info_siL l1 (.slice sq1 N csq1) (.slice sq2 M csq2)) ?_))
          refine (rsame_any l1 sp1 sp2 sq1 sq2 N M csp1 csp2 csq1 csq2 cl pl w8 (HCa.out.hvs HR.out.hc) (HPa.out.hvs HR.out.hp) (HCb.out.hvs HR.out.hc) (HPb.out.hvs HR.out.hp) HR.out.hn HR.out.hm).mono ?_
          rintro e wf ⟨rfl, hb⟩
          have HBf : Hid (Below w.heap.size w wf) := HVf.out.b.trans (hb.mono (by have := HVf.out.k; omega))
          clear hb
          go_wp2_with fail
          go_ret
          exact ⟨rfl, HBf.out⟩
        · have q4 : decide (n < 64) = false := by simpa using h4
          go_upto_region 3 with (fail)
          clear c16 c17 q1 q2 q3 q4 h1 h2 h3 h4
          generalize v0 = v at *
          have HV : Hid (SdBox w x h n d v) := HT0.out
          clear HT0
          obtain ⟨x1, h1, n1, l1, E, N, M, cl, pl, hr⟩ := sign_both x h n d HS.out HD.out
          have HR := Lib.hid hr
          clear hr
          go_wp2_with (first | (refine wpList_load_row rfl 38 _ rfl w.heap.size rfl 38 _ (0, 0) _ HV.out.s Tryd.underlying38 rfl (info_sg HS.out) ?_) | (refine wpList_load_row rfl 32 _ rfl (w.heap.size + 1) rfl 32 _ (0, 0) _ HV.out.d Tryd.underlying32 rfl (info_dA HD.out) ?_))
          refine (HR.out.a v (HK.out.below HV.out.b hk0) (by have := HV.out.k; omega)).mono ?_
          rintro e w3 ⟨sp1, csp1, sp2, csp2, rfl, hc, hp, hb⟩
          have HC3 := Lib.hid (hc.base (Nat.zero_le _)); have HP3 := Lib.hid (hp.base (Nat.zero_le _))
          have HV3 : Hid (SdBox w x h n d w3) := HV.out.below hb
          clear hc hp hb HV
          have HZZ := Lib.hid (ZzBox.new w3)
          have HIS : Hid (w3.heap.size + 1 ≠ w3.heap.size) := by show _ ≠ _; omega
          go_wp2_with (first
            | (generalize hz : World.alloc (World.alloc w3 _) _ = w4; have HZ4 : Hid (ZzBox w3 w4) := (by rw [← hz]; exact HZZ.out); clear hz HZZ; have HC4 : Hid (OwnHv w4 0 (.slice sp1 N csp1) cl) := HC3.out.below HZ4.out.b; have HP4 : Hid (OwnHv w4 0 (.slice sp2 M csp2) pl) := HP3.out.below HZ4.out.b; refine wpList_store_row rfl 38 _ _ rfl w3.heap.size (sgA x1 h1 n1) rfl rfl 38 _ HZ4.out.y (info_sg HR.out.hx) (by rw [sgA_size HR.out.hx, sgA_size zh16_H16]) (one_sg _ _ _) ?_; generalize hw5 : World.setRow w4 _ _ = w5; have HY5 : Hid (w5.heap[w3.heap.size]? = some (.cells (sgA x1 h1 n1) 38 (0, 0))) := (by rw [← hw5]; exact setRow_heap _ _ _ _ _ _ HZ4.out.y); have HZ5 : Hid (w5.heap[w3.heap.size + 1]? = some (.cells (siA 0 nilS nilS) 41 (0, 0))) := (by rw [← hw5]; exact (setRow_other _ _ _ _ HIS.out).trans HZ4.out.z); have HB5 : Hid (Below w3.heap.size w3 w5) := (by rw [← hw5]; exact below_setRow HZ4.out.b (Nat.le_refl _) _); have HC5 : Hid (OwnHv w5 0 (.slice sp1 N csp1) cl) := (by rw [← hw5]; exact HC4.out.setRow HZ4.out.y ne_sg _); have HP5 : Hid (OwnHv w5 0 (.slice sp2 M csp2) pl) := (by rw [← hw5]; exact HP4.out.setRow HZ4.out.y ne_sg _); have hz5 : w3.heap.size + 2 ≤ w5.heap.size := (by rw [← hw5]; simp [World.setRow]; have := HZ4.out.k; omega); clear hw5 HC4 HP4 HZ4)
            | (refine wpList_store_row rfl 41 _ _ rfl (w3.heap.size + 1) (siA l1 (.slice sp1 N csp1) (.slice sp2 M csp2)) rfl rfl 41 _ HZ5.out (info_si _ _ _) rfl (one_si _ _ _ _ _ _ _) ?_; generalize hw6 : World.setRow w5 _ _ = w6; have HYA : Hid (w6.heap[w3.heap.size]? = some (.cells (sgA x1 h1 n1) 38 (0, 0))) := (by rw [← hw6]; exact (setRow_other _ _ _ _ (Ne.symm HIS.out)).trans HY5.out); have HZA : Hid (w6.heap[w3.heap.size + 1]? = some (.cells (siA l1 (.slice sp1 N csp1) (.slice sp2 M csp2)) 41 (0, 0))) := (by rw [← hw6]; exact setRow_heap _ _ _ _ _ _ HZ5.out); have HBA : Hid (Below w3.heap.size w3 w6) := (by rw [← hw6]; exact below_setRow HB5.out (Nat.le_succ _) _); have HCA : Hid (OwnHv w6 0 (.slice sp1 N csp1) cl) := (by rw [← hw6]; exact HC5.out.setRow HZ5.out ne_si _); have HPA : Hid (OwnHv w6 0 (.slice sp2 M csp2) pl) := (by rw [← hw6]; exact HP5.out.setRow HZ5.out ne_si _); have hzA : w3.heap.size + 2 ≤ w6.heap.size := (by rw [← hw6]; simp [World.setRow]; omega); clear hw6 HY5 HZ5 HB5 HC5 HP5 hz5; have HV6 : Hid (SdBox w x h n d w6) := HV3.out.below HBA.out)
            | (refine wpList_load_row rfl 38 _ rfl w.heap.size rfl 38 _ (0, 0) _ HV6.out.s Tryd.underlying38 rfl (info_sg HS.out) ?_)
            | (refine wpList_load_row rfl 32 _ rfl (w.heap.size + 1) rfl 32 _ (0, 0) _ HV6.out.d Tryd.underlying32 rfl (info_dA HD.out) ?_))
          have hk3 := HV3.out.k
          clear HC3 HP3 HV3 HBA HIS
          generalize w3.heap.size = ga at *
          generalize w6 = vA at *
          refine (HR.out.b vA).mono ?_
          rintro e w7 ⟨sq1, csq1, sq2, csq2, rfl, hc, hp, hb⟩
          have HC3 := Lib.hid (hc.base (Nat.zero_le _)); have HP3 := Lib.hid (hp.base (Nat.zero_le _))
          have HV7 : Hid (SdBox w x h n d w7) := HV6.out.below hb
          have HY7 : Hid (w7.heap[ga]? = some (.cells (sgA x1 h1 n1) 38 (0, 0))) := (hb.block _ (by omega)).trans HYA.out
          have HZ7 : Hid (w7.heap[ga + 1]? = some (.cells (siA l1 (.slice sp1 N csp1) (.slice sp2 M csp2)) 41 (0, 0))) := (hb.block _ (by omega)).trans HZA.out
          have HC7 : Hid (OwnHv w7 0 (.slice sp1 N csp1) cl) := HCA.out.below hb
          have HP7 : Hid (OwnHv w7 0 (.slice sp2 M csp2) pl) := HPA.out.below hb
          have hs7 := hb.size
          clear hc hp hb HV6 HYA HZA HCA HPA
          have HZZ := Lib.hid (ZzBox.new w7)
          have HIS : Hid (w7.heap.size + 1 ≠ w7.heap.size) := by show _ ≠ _; omega
          go_wp2_with (first
            | (generalize hz : World.alloc (World.alloc w7 _) _ = w4; have HZ4 : Hid (ZzBox w7 w4) := (by rw [← hz]; exact HZZ.out); clear hz HZZ; have HC4 : Hid (OwnHv w4 0 (.slice sq1 N csq1) cl) := HC3.out.below HZ4.out.b; have HP4 : Hid (OwnHv w4 0 (.slice sq2 M csq2) pl) := HP3.out.below HZ4.out.b; refine wpList_store_row rfl 38 _ _ rfl w7.heap.size (sgA x1 h1 n1) rfl rfl 38 _ HZ4.out.y (info_sg HR.out.hx) (by rw [sgA_size HR.out.hx, sgA_size zh16_H16]) (one_sg _ _ _) ?_; generalize hw5 : World.setRow w4 _ _ = w5; have HY5 : Hid (w5.heap[w7.heap.size]? = some (.cells (sgA x1 h1 n1) 38 (0, 0))) := (by rw [← hw5]; exact setRow_heap _ _ _ _ _ _ HZ4.out.y); have HZ5 : Hid (w5.heap[w7.heap.size + 1]? = some (.cells (siA 0 nilS nilS) 41 (0, 0))) := (by rw [← hw5]; exact (setRow_other _ _ _ _ HIS.out).trans HZ4.out.z); have HB5 : Hid (Below w7.heap.size w7 w5) := (by rw [← hw5]; exact below_setRow HZ4.out.b (Nat.le_refl _) _); have HC5 : Hid (OwnHv w5 0 (.slice sq1 N csq1) cl) := (by rw [← hw5]; exact HC4.out.setRow HZ4.out.y ne_sg _); have HP5 : Hid (OwnHv w5 0 (.slice sq2 M csq2) pl) := (by rw [← hw5]; exact HP4.out.setRow HZ4.out.y ne_sg _); have hz5 : w7.heap.size + 2 ≤ w5.heap.size := (by rw [← hw5]; simp [World.setRow]; have := HZ4.out.k; omega); clear hw5 HC4 HP4 HZ4)
            | (refine wpList_store_row rfl 41 _ _ rfl (w7.heap.size + 1) (siA l1 (.slice sq1 N csq1) (.slice sq2 M csq2)) rfl rfl 41 _ HZ5.out (info_si _ _ _) rfl (one_si _ _ _ _ _ _ _) ?_; generalize hw6 : World.setRow w5 _ _ = w6; have HYB : Hid (w6.heap[w7.heap.size]? = some (.cells (sgA x1 h1 n1) 38 (0, 0))) := (by rw [← hw6]; exact (setRow_other _ _ _ _ (Ne.symm HIS.out)).trans HY5.out); have HZB : Hid (w6.heap[w7.heap.size + 1]? = some (.cells (siA l1 (.slice sq1 N csq1) (.slice sq2 M csq2)) 41 (0, 0))) := (by rw [← hw6]; exact setRow_heap _ _ _ _ _ _ HZ5.out); have HBB : Hid (Below w7.heap.size w7 w6) := (by rw [← hw6]; exact below_setRow HB5.out (Nat.le_succ _) _); have HCB : Hid (OwnHv w6 0 (.slice sq1 N csq1) cl) := (by rw [← hw6]; exact HC5.out.setRow HZ5.out ne_si _); have HPB : Hid (OwnHv w6 0 (.slice sq2 M csq2) pl) := (by rw [← hw6]; exact HP5.out.setRow HZ5.out ne_si _); have hzB : w7.heap.size + 2 ≤ w6.heap.size := (by rw [← hw6]; simp [World.setRow]; omega); clear hw6 HY5 HZ5 HB5 HC5 HP5 hz5))
          have HV9 : Hid (SdBox w x h n d w6) := HV7.out.below HBB.out
          have HY9 : Hid (w6.heap[ga]? = some (.cells (sgA x1 h1 n1) 38 (0, 0))) := (HBB.out.block _ (by omega)).trans HY7.out
          have HZ9 : Hid (w6.heap[ga + 1]? = some (.cells (siA l1 (.slice sp1 N csp1) (.slice sp2 M csp2)) 41 (0, 0))) := (HBB.out.block _ (by omega)).trans HZ7.out
          have HC9 : Hid (OwnHv w6 0 (.slice sp1 N csp1) cl) := HC7.out.below HBB.out
          have HP9 : Hid (OwnHv w6 0 (.slice sp2 M csp2) pl) := HP7.out.below HBB.out
          have hk9 := HV9.out.k
          have hga : ga + 2 ≤ w7.heap.size := by omega
          clear HC3 HP3 HV7 HY7 HZ7 HC7 HP7 HIS HBB hs7 hzA
          generalize w7.heap.size = gb at *
          generalize w6 = vB at *
          refine (awake_any vB (HK.out.below HV9.out.b hk0) (by omega)).mono ?_
          rintro e w8 ⟨rfl, hb⟩
          have HVf : Hid (SdBox w x h n d w8) := HV9.out.below hb
          have HYa : Hid (w8.heap[ga]? = some (.cells (sgA x1 h1 n1) 38 (0, 0))) := (hb.block _ (by omega)).trans HY9.out
          have HZa : Hid (w8.heap[ga + 1]? = some (.cells (siA l1 (.slice sp1 N csp1) (.slice sp2 M csp2)) 41 (0, 0))) := (hb.block _ (by omega)).trans HZ9.out
          have HYb : Hid (w8.heap[gb]? = some (.cells (sgA x1 h1 n1) 38 (0, 0))) := (hb.block _ (by omega)).trans HYB.out
          have HZb : Hid (w8.heap[gb + 1]? = some (.cells (siA l1 (.slice sq1 N csq1) (.slice sq2 M csq2)) 41 (0, 0))) := (hb.block _ (by omega)).trans HZB.out
          have HCa : Hid (OwnHv w8 0 (.slice sp1 N csp1) cl) := HC9.out.below hb
          have HPa : Hid (OwnHv w8 0 (.slice sp2 M csp2) pl) := HP9.out.below hb
          have HCb : Hid (OwnHv w8 0 (.slice sq1 N csq1) cl) := HCB.out.below hb
          have HPb : Hid (OwnHv w8 0 (.slice sq2 M csq2) pl) := HPB.out.below hb
          clear hb HV9 HY9 HZ9 HC9 HP9 HYB HZB HCB HPB
          have HRa := Lib.hid (row_rngK HYa.out); have HRb := Lib.hid (row_rngK HYb.out)
          have HQa := Lib.hid (row_rngK (L := siL l1 (.slice sp1 N csp1) (.slice sp2 M csp2)) HZa.out)
          have HQb := Lib.hid (row_rngK (L := siL l1 (.slice sq1 N csq1) (.slice sq2 M csq2)) HZb.out)
          have qE : (E == E) = true := by simp
          go_wp2_with (first
            | (refine wpList_load_mid_gK (by rfl) 38 _ rfl ga 0 rfl _ _ HRa.out Tryd.underlying38 rfl (info_sgL HR.out.hx) ?_)
            | (refine wpList_load_mid_gK (by rfl) 38 _ rfl gb 0 rfl _ _ HRb.out Tryd.underlying38 rfl (info_sgL HR.out.hx) ?_)
            | (refine wpList_eqK (by rfl) 38 _ _ rfl (sgA x1 h1 n1) (by kernel_rfl) (eqSg x1 h1 n1 HR.out.hx _) rfl rfl ?_)
            | (refine wpList_load_mid_gK (by rfl) 41 _ rfl (ga + 1) 0 rfl _ _ HQa.out Tryd.underlying41 rfl (info_siL l1 (.slice sp1 N csp1) (.slice sp2 M csp2)) ?_)
            | (refine wpList_load_mid_gK (by rfl) 41 _ rfl (gb + 1) 0 rfl _ _ HQb.out Tryd.underlying41 rfl (info_siL l1 (.slice sq1 N csq1) (.slice sq2 M csq2)) ?_))
          refine (rsame_any l1 sp1 sp2 sq1 sq2 N M csp1 csp2 csq1 csq2 cl pl w8 (HCa.out.hvs HR.out.hc) (HPa.out.hvs HR.out.hp) (HCb.out.hvs HR.out.hc) (HPb.out.hvs HR.out.hp) HR.out.hn HR.out.hm).mono ?_
          rintro e wf ⟨rfl, hb⟩
          have HBf : Hid (Below w.heap.size w wf) := HVf.out.b.trans (hb.mono (by have := HVf.out.k; omega))
          clear hb
          go_wp2_with fail
          go_ret
          exact ⟨rfl, HBf.out⟩
      · have q3 : decide (n ≥ 0) = false := by simpa using h3
        go_upto_region 3 with (fail)
        clear c16 c17 q1 q2 q3 h1 h2 h3
        generalize v0 = v at *
        have HV : Hid (SdBox w x h n d v) := HT0.out
        clear HT0
        obtain ⟨x1, h1, n1, l1, E, N, M, cl, pl, hr⟩ := sign_both x h n d HS.out HD.out
        have HR := Lib.hid hr
        clear hr
        go_wp2_with (first | (refine wpList_load_row rfl 38 _ rfl w.heap.size rfl 38 _ (0, 0) _ HV.out.s Tryd.underlying38 rfl (info_sg HS.out) ?_) | (refine wpList_load_row rfl 32 _ rfl (w.heap.size + 1) rfl 32 _ (0, 0) _ HV.out.d Tryd.underlying32 rfl (info_dA HD.out) ?_))
        refine (HR.out.a v (HK.out.below HV.out.b hk0) (by have := HV.out.k; omega)).mono ?_
        rintro e w3 ⟨sp1, csp1, sp2, csp2, rfl, hc, hp, hb⟩
        have HC3 := Lib.hid (hc.base (Nat.zero_le _)); have HP3 := Lib.hid (hp.base (Nat.zero_le _))
        have HV3 : Hid (SdBox w x h n d w3) := HV.out.below hb
        clear hc hp hb HV
        have HZZ := Lib.hid (ZzBox.new w3)
        have HIS : Hid (w3.heap.size + 1 ≠ w3.heap.size) := by show _ ≠ _; omega
        go_wp2_with (first
          | (generalize hz : World.alloc (World.alloc w3 _) _ = w4; have HZ4 : Hid (ZzBox w3 w4) := (by rw [← hz]; exact HZZ.out); clear hz HZZ; have HC4 : Hid (OwnHv w4 0 (.slice sp1 N csp1) cl) := HC3.out.below HZ4.out.b; have HP4 : Hid (OwnHv w4 0 (.slice sp2 M csp2) pl) := HP3.out.below HZ4.out.b; refine wpList_store_row rfl 38 _ _ rfl w3.heap.size (sgA x1 h1 n1) rfl rfl 38 _ HZ4.out.y (info_sg HR.out.hx) (by rw [sgA_size HR.out.hx, sgA_size zh16_H16]) (one_sg _ _ _) ?_; generalize hw5 : World.setRow w4 _ _ = w5; have HY5 : Hid (w5.heap[w3.heap.size]? = some (.cells (sgA x1 h1 n1) 38 (0, 0))) := (by rw [← hw5]; exact setRow_heap _ _ _ _ _ _ HZ4.out.y); have HZ5 : Hid (w5.heap[w3.heap.size + 1]? = some (.cells (siA 0 nilS nilS) 41 (0, 0))) := (by rw [← hw5]; exact (setRow_other _ _ _ _ HIS.out).trans HZ4.out.z); have HB5 : Hid (Below w3.heap.size w3 w5) := (by rw [← hw5]; exact below_setRow HZ4.out.b (Nat.le_refl _) _); have HC5 : Hid (OwnHv w5 0 (.slice sp1 N csp1) cl) := (by rw [← hw5]; exact HC4.out.setRow HZ4.out.y ne_sg _); have HP5 : Hid (OwnHv w5 0 (.slice sp2 M csp2) pl) := (by rw [← hw5]; exact HP4.out.setRow HZ4.out.y ne_sg _); have hz5 : w3.heap.size + 2 ≤ w5.heap.size := (by rw [← hw5]; simp [World.setRow]; have := HZ4.out.k; omega); clear hw5 HC4 HP4 HZ4)
          | (refine wpList_store_row rfl 41 _ _ rfl (w3.heap.size + 1) (siA l1 (.slice sp1 N csp1) (.slice sp2 M csp2)) rfl rfl 41 _ HZ5.out (info_si _ _ _) rfl (one_si _ _ _ _ _ _ _) ?_; generalize hw6 : World.setRow w5 _ _ = w6; have HYA : Hid (w6.heap[w3.heap.size]? = some (.cells (sgA x1 h1 n1) 38 (0, 0))) := (by rw [← hw6]; exact (setRow_other _ _ _ _ (Ne.symm HIS.out)).trans HY5.out); have HZA : Hid (w6.heap[w3.heap.size + 1]? = some (.cells (siA l1 (.slice sp1 N csp1) (.slice sp2 M csp2)) 41 (0, 0))) := (by rw [← hw6]; exact setRow_heap _ _ _ _ _ _ HZ5.out); have HBA : Hid (Below w3.heap.size w3 w6) := (by rw [← hw6]; exact below_setRow HB5.out (Nat.le_succ _) _); have HCA : Hid (OwnHv w6 0 (.slice sp1 N csp1) cl) := (by rw [← hw6]; exact HC5.out.setRow HZ5.out ne_si _); have HPA : Hid (OwnHv w6 0 (.slice sp2 M csp2) pl) := (by rw [← hw6]; exact HP5.out.setRow HZ5.out ne_si _); have hzA : w3.heap.size + 2 ≤ w6.heap.size := (by rw [← hw6]; simp [World.setRow]; omega); clear hw6 HY5 HZ5 HB5 HC5 HP5 hz5; have HV6 : Hid (SdBox w x h n d w6) := HV3.out.below HBA.out)
          | (refine wpList_load_row rfl 38 _ rfl w.heap.size rfl 38 _ (0, 0) _ HV6.out.s Tryd.underlying38 rfl (info_sg HS.out) ?_)
          | (refine wpList_load_row rfl 32 _ rfl (w.heap.size + 1) rfl 32 _ (0, 0) _ HV6.out.d Tryd.underlying32 rfl (info_dA HD.out) ?_))
        have hk3 := HV3.out.k
        clear HC3 HP3 HV3 HBA HIS
        generalize w3.heap.size = ga at *
        generalize w6 = vA at *
        refine (HR.out.b vA).mono ?_
        rintro e w7 ⟨sq1, csq1, sq2, csq2, rfl, hc, hp, hb⟩
        have HC3 := Lib.hid (hc.base (Nat.zero_le _)); have HP3 := Lib.hid (hp.base (Nat.zero_le _))
        have HV7 : Hid (SdBox w x h n d w7) := HV6.out.below hb
        have HY7 : Hid (w7.heap[ga]? = some (.cells (sgA x1 h1 n1) 38 (0, 0))) := (hb.block _ (by omega)).trans HYA.out
        have HZ7 : Hid (w7.heap[ga + 1]? = some (.cells (siA l1 (.slice sp1 N csp1) (.slice sp2 M csp2)) 41 (0, 0))) := (hb.block _ (by omega)).trans HZA.out
        have HC7 : Hid (OwnHv w7 0 (.slice sp1 N csp1) cl) := HCA.out.below hb
        have HP7 : Hid (OwnHv w7 0 (.slice sp2 M csp2) pl) := HPA.out.below hb
        have hs7 := hb.size
        clear hc hp hb HV6 HYA HZA HCA HPA
        have HZZ := Lib.hid (ZzBox.new w7)
        have HIS : Hid (w7.heap.size + 1 ≠ w7.heap.size) := by show _ ≠ _; omega
        go_wp2_with (first
          | (generalize hz : World.alloc (World.alloc w7 _) _ = w4; have HZ4 : Hid (ZzBox w7 w4) := (by rw [← hz]; exact HZZ.out); clear hz HZZ; have HC4 : Hid (OwnHv w4 0 (.slice sq1 N csq1) cl) := HC3.out.below HZ4.out.b; have HP4 : Hid (OwnHv w4 0 (.slice sq2 M csq2) pl) := HP3.out.below HZ4.out.b; refine wpList_store_row rfl 38 _ _ rfl w7.heap.size (sgA x1 h1 n1) rfl rfl 38 _ HZ4.out.y (info_sg HR.out.hx) (by rw [sgA_size HR.out.hx, sgA_size zh16_H16]) (one_sg _ _ _) ?_; generalize hw5 : World.setRow w4 _ _ = w5; have HY5 : Hid (w5.heap[w7.heap.size]? = some (.cells (sgA x1 h1 n1) 38 (0, 0))) := (by rw [← hw5]; exact setRow_heap _ _ _ _ _ _ HZ4.out.y); have HZ5 : Hid (w5.heap[w7.heap.size + 1]? = some (.cells (siA 0 nilS nilS) 41 (0, 0))) := (by rw [← hw5]; exact (setRow_other _ _ _ _ HIS.out).trans HZ4.out.z); have HB5 : Hid (Below w7.heap.size w7 w5) := (by rw [← hw5]; exact below_setRow HZ4.out.b (Nat.le_refl _) _); have HC5 : Hid (OwnHv w5 0 (.slice sq1 N csq1) cl) := (by rw [← hw5]; exact HC4.out.setRow HZ4.out.y ne_sg _); have HP5 : Hid (OwnHv w5 0 (.slice sq2 M csq2) pl) := (by rw [← hw5]; exact HP4.out.setRow HZ4.out.y ne_sg _); have hz5 : w7.heap.size + 2 ≤ w5.heap.size := (by rw [← hw5]; simp [World.setRow]; have := HZ4.out.k; omega); clear hw5 HC4 HP4 HZ4)
          | (refine wpList_store_row rfl 41 _ _ rfl (w7.heap.size + 1) (siA l1 (.slice sq1 N csq1) (.slice sq2 M csq2)) rfl rfl 41 _ HZ5.out (info_si _ _ _) rfl (one_si _ _ _ _ _ _ _) ?_; generalize hw6 : World.setRow w5 _ _ = w6; have HYB : Hid (w6.heap[w7.heap.size]? = some (.cells (sgA x1 h1 n1) 38 (0, 0))) := (by rw [← hw6]; exact (setRow_other _ _ _ _ (Ne.symm HIS.out)).trans HY5.out); have HZB : Hid (w6.heap[w7.heap.size + 1]? = some (.cells (siA l1 (.slice sq1 N csq1) (.slice sq2 M csq2)) 41 (0, 0))) := (by rw [← hw6]; exact setRow_heap _ _ _ _ _ _ HZ5.out); have HBB : Hid (Below w7.heap.size w7 w6) := (by rw [← hw6]; exact below_setRow HB5.out (Nat.le_succ _) _); have HCB : Hid (OwnHv w6 0 (.slice sq1 N csq1) cl) := (by rw [← hw6]; exact HC5.out.setRow HZ5.out ne_si _); have HPB : Hid (OwnHv w6 0 (.slice sq2 M csq2) pl) := (by rw [← hw6]; exact HP5.out.setRow HZ5.out ne_si _); have hzB : w7.heap.size + 2 ≤ w6.heap.size := (by rw [← hw6]; simp [World.setRow]; omega); clear hw6 HY5 HZ5 HB5 HC5 HP5 hz5))
        have HV9 : Hid (SdBox w x h n d w6) := HV7.out.below HBB.out
        have HY9 : Hid (w6.heap[ga]? = some (.cells (sgA x1 h1 n1) 38 (0, 0))) := (HBB.out.block _ (by omega)).trans HY7.out
        have HZ9 : Hid (w6.heap[ga + 1]? = some (.cells (siA l1 (.slice sp1 N csp1) (.slice sp2 M csp2)) 41 (0, 0))) := (HBB.out.block _ (by omega)).trans HZ7.out
        have HC9 : Hid (OwnHv w6 0 (.slice sp1 N csp1) cl) := HC7.out.below HBB.out
        have HP9 : Hid (OwnHv w6 0 (.slice sp2 M csp2) pl) := HP7.out.below HBB.out
        have hk9 := HV9.out.k
        have hga : ga + 2 ≤ w7.heap.size := by omega
        clear HC3 HP3 HV7 HY7 HZ7 HC7 HP7 HIS HBB hs7 hzA
        generalize w7.heap.size = gb at *
        generalize w6 = vB at *
        refine (awake_any vB (HK.out.below HV9.out.b hk0) (by omega)).mono ?_
        rintro e w8 ⟨rfl, hb⟩
        have HVf : Hid (SdBox w x h n d w8) := HV9.out.below hb
        have HYa : Hid (w8.heap[ga]? = some (.cells (sgA x1 h1 n1) 38 (0, 0))) := (hb.block _ (by omega)).trans HY9.out
        have HZa : Hid (w8.heap[ga + 1]? = some (.cells (siA l1 (.slice sp1 N csp1) (.slice sp2 M csp2)) 41 (0, 0))) := (hb.block _ (by omega)).trans HZ9.out
        have HYb : Hid (w8.heap[gb]? = some (.cells (sgA x1 h1 n1) 38 (0, 0))) := (hb.block _ (by omega)).trans HYB.out
        have HZb : Hid (w8.heap[gb + 1]? = some (.cells (siA l1 (.slice sq1 N csq1) (.slice sq2 M csq2)) 41 (0, 0))) := (hb.block _ (by omega)).trans HZB.out
        have HCa : Hid (OwnHv w8 0 (.slice sp1 N csp1) cl) := HC9.out.below hb
        have HPa : Hid (OwnHv w8 0 (.slice sp2 M csp2) pl) := HP9.out.below hb
        have HCb : Hid (OwnHv w8 0 (.slice sq1 N csq1) cl) := HCB.out.below hb
        have HPb : Hid (OwnHv w8 0 (.slice sq2 M csq2) pl) := HPB.out.below hb
        clear hb HV9 HY9 HZ9 HC9 HP9 HYB HZB HCB HPB
        have HRa := Lib.hid (row_rngK HYa.out); have HRb := Lib.hid (row_rngK HYb.out)
        have HQa := Lib.hid (row_rngK (L := siL l1 (.slice sp1 N csp1) (.slice sp2 M csp2)) HZa.out)
        have HQb := Lib.hid (row_rngK (L := siL l1 (.slice sq1 N csq1) (.slice sq2 M csq2)) HZb.out)
        have qE : (E == E) = true := by simp
        go_wp2_with (first
          | (refine wpList_load_mid_gK (by rfl) 38 _ rfl ga 0 rfl _ _ HRa.out Tryd.underlying38 rfl (info_sgL HR.out.hx) ?_)
          | (refine wpList_load_mid_gK (by rfl) 38 _ rfl gb 0 rfl _ _ HRb.out Tryd.underlying38 rfl (info_sgL HR.out.hx) ?_)
          | (refine wpList_eqK (by rfl) 38 _ _ rfl (sgA x1 h1 n1) (by kernel_rfl) (eqSg x1 h1 n1 HR.out.hx _) rfl rfl ?_)
          | (refine wpList_load_mid_gK (by rfl) 41 _ rfl (ga + 1) 0 rfl _ _ HQa.out Tryd.underlying41 rfl (info_siL l1 (.slice sp1 N csp1) (.slice sp2 M csp2)) ?_)
          | (refine wpList_load_mid_gK (by rfl) 41 _ rfl (gb + 1) 0 rfl _ _ HQb.out Tryd.underlying41 rfl (info_siL l1 (.slice sq1 N csq1) (.slice sq2 M csq2)) ?_))
        refine (rsame_any l1 sp1 sp2 sq1 sq2 N M csp1 csp2 csq1 csq2 cl pl w8 (HCa.out.hvs HR.out.hc) (HPa.out.hvs HR.out.hp) (HCb.out.hvs HR.out.hc) (HPb.out.hvs HR.out.hp) HR.out.hn HR.out.hm).mono ?_
        rintro e wf ⟨rfl, hb⟩
        have HBf : Hid (Below w.heap.size w wf) := HVf.out.b.trans (hb.mono (by have := HVf.out.k; omega))
        clear hb
        go_wp2_with fail
        go_ret
        exact ⟨rfl, HBf.out⟩
    · have q2 : decide (h ≤ 6) = false := by simpa using h2
      go_upto_region 3 with (fail)
      clear c16 c17 q1 q2 h1 h2
      generalize v0 = v at *
      have HV : Hid (SdBox w x h n d v) := HT0.out
      clear HT0
      obtain ⟨x1, h1, n1, l1, E, N, M, cl, pl, hr⟩ := sign_both x h n d HS.out HD.out
      have HR := Lib.hid hr
      clear hr
      go_wp2_with (first | (refine wpList_load_row rfl 38 _ rfl w.heap.size rfl 38 _ (0, 0) _ HV.out.s Tryd.underlying38 rfl (info_sg HS.out) ?_) | (refine wpList_load_row rfl 32 _ rfl (w.heap.size + 1) rfl 32 _ (0, 0) _ HV.out.d Tryd.underlying32 rfl (info_dA HD.out) ?_))
      refine (HR.out.a v (HK.out.below HV.out.b hk0) (by have := HV.out.k; omega)).mono ?_
      rintro e w3 ⟨sp1, csp1, sp2, csp2, rfl, hc, hp, hb⟩
      have HC3 := Lib.hid (hc.base (Nat.zero_le _)); have HP3 := Lib.hid (hp.base (Nat.zero_le _))
      have HV3 : Hid (SdBox w x h n d w3) := HV.out.below hb
      clear hc hp hb HV
      have HZZ := Lib.hid (ZzBox.new w3)
      have HIS : Hid (w3.heap.size + 1 ≠ w3.heap.size) := by show _ ≠ _; omega
      go_wp2_with (first
        | (generalize hz : World.alloc (World.alloc w3 _) _ = w4; have HZ4 : Hid (ZzBox w3 w4) := (by rw [← hz]; exact HZZ.out); clear hz HZZ; have HC4 : Hid (OwnHv w4 0 (.slice sp1 N csp1) cl) := HC3.out.below HZ4.out.b; have HP4 : Hid (OwnHv w4 0 (.slice sp2 M csp2) pl) := HP3.out.below HZ4.out.b; refine wpList_store_row rfl 38 _ _ rfl w3.heap.size (sgA x1 h1 n1) rfl rfl 38 _ HZ4.out.y (info_sg HR.out.hx) (by rw [sgA_size HR.out.hx, sgA_size zh16_H16]) (one_sg _ _ _) ?_; generalize hw5 : World.setRow w4 _ _ = w5; have HY5 : Hid (w5.heap[w3.heap.size]? = some (.cells (sgA x1 h1 n1) 38 (0, 0))) := (by rw [← hw5]; exact setRow_heap _ _ _ _ _ _ HZ4.out.y); have HZ5 : Hid (w5.heap[w3.heap.size + 1]? = some (.cells (siA 0 nilS nilS) 41 (0, 0))) := (by rw [← hw5]; exact (setRow_other _ _ _ _ HIS.out).trans HZ4.out.z); have HB5 : Hid (Below w3.heap.size w3 w5) := (by rw [← hw5]; exact below_setRow HZ4.out.b (Nat.le_refl _) _); have HC5 : Hid (OwnHv w5 0 (.slice sp1 N csp1) cl) := (by rw [← hw5]; exact HC4.out.setRow HZ4.out.y ne_sg _); have HP5 : Hid (OwnHv w5 0 (.slice sp2 M csp2) pl) := (by rw [← hw5]; exact HP4.out.setRow HZ4.out.y ne_sg _); have hz5 : w3.heap.size + 2 ≤ w5.heap.size := (by rw [← hw5]; simp [World.setRow]; have := HZ4.out.k; omega); clear hw5 HC4 HP4 HZ4)
        | (refine wpList_store_row rfl 41 _ _ rfl (w3.heap.size + 1) (siA l1 (.slice sp1 N csp1) (.slice sp2 M csp2)) rfl rfl 41 _ HZ5.out (info_si _ _ _) rfl (one_si _ _ _ _ _ _ _) ?_; generalize hw6 : World.setRow w5 _ _ = w6; have HYA : Hid (w6.heap[w3.heap.size]? = some (.cells (sgA x1 h1 n1) 38 (0, 0))) := (by rw [← hw6]; exact (setRow_other _ _ _ _ (Ne.symm HIS.out)).trans HY5.out); have HZA : Hid (w6.heap[w3.heap.size + 1]? = some (.cells (siA l1 (.slice sp1 N csp1) (.slice sp2 M csp2)) 41 (0, 0))) := (by rw [← hw6]; exact setRow_heap _ _ _ _ _ _ HZ5.out); have HBA : Hid (Below w3.heap.size w3 w6) := (by rw [← hw6]; exact below_setRow HB5.out (Nat.le_succ _) _); have HCA : Hid (OwnHv w6 0 (.slice sp1 N csp1) cl) := (by rw [← hw6]; exact HC5.out.setRow HZ5.out ne_si _); have HPA : Hid (OwnHv w6 0 (.slice sp2 M csp2) pl) := (by rw [← hw6]; exact HP5.out.setRow HZ5.out ne_si _); have hzA : w3.heap.size + 2 ≤ w6.heap.size := (by rw [← hw6]; simp [World.setRow]; omega); clear hw6 HY5 HZ5 HB5 HC5 HP5 hz5; have HV6 : Hid (SdBox w x h n d w6) := HV3.out.below HBA.out)
        | (refine wpList_load_row rfl 38 _ rfl w.heap.size rfl 38 _ (0, 0) _ HV6.out.s Tryd.underlying38 rfl (info_sg HS.out) ?_)
        | (refine wpList_load_row rfl 32 _ rfl (w.heap.size + 1) rfl 32 _ (0, 0) _ HV6.out.d Tryd.underlying32 rfl (info_dA HD.out) ?_))
      have hk3 := HV3.out.k
      clear HC3 HP3 HV3 HBA HIS
      generalize w3.heap.size = ga at *
      generalize w6 = vA at *
      refine (HR.out.b vA).mono ?_
      rintro e w7 ⟨sq1, csq1, sq2, csq2, rfl, hc, hp, hb⟩
      have HC3 := Lib.hid (hc.base (Nat.zero_le _)); have HP3 := Lib.hid (hp.base (Nat.zero_le _))
      have HV7 : Hid (SdBox w x h n d w7) := HV6.out.below hb
      have HY7 : Hid (w7.heap[ga]? = some (.cells (sgA x1 h1 n1) 38 (0, 0))) := (hb.block _ (by omega)).trans HYA.out
      have HZ7 : Hid (w7.heap[ga + 1]? = some (.cells (siA l1 (.slice sp1 N csp1) (.slice sp2 M csp2)) 41 (0, 0))) := (hb.block _ (by omega)).trans HZA.out
      have HC7 : Hid (OwnHv w7 0 (.slice sp1 N csp1) cl) := HCA.out.below hb
      have HP7 : Hid (OwnHv w7 0 (.slice sp2 M csp2) pl) := HPA.out.below hb
      have hs7 := hb.size
      clear hc hp hb HV6 HYA HZA HCA HPA
      have HZZ := Lib.hid (ZzBox.new w7)
      have HIS : Hid (w7.heap.size + 1 ≠ w7.heap.size) := by show _ ≠ _; omega
      go_wp2_with (first
        | (generalize hz : World.alloc (World.alloc w7 _) _ = w4; have HZ4 : Hid (ZzBox w7 w4) := (by rw [← hz]; exact HZZ.out); clear hz HZZ; have HC4 : Hid (OwnHv w4 0 (.slice sq1 N csq1) cl) := HC3.out.below HZ4.out.b; have HP4 : Hid (OwnHv w4 0 (.slice sq2 M csq2) pl) := HP3.out.below HZ4.out.b; refine wpList_store_row rfl 38 _ _ rfl w7.heap.size (sgA x1 h1 n1) rfl rfl 38 _ HZ4.out.y (info_sg HR.out.hx) (by rw [sgA_size HR.out.hx, sgA_size zh16_H16]) (one_sg _ _ _) ?_; generalize hw5 : World.setRow w4 _ _ = w5; have HY5 : Hid (w5.heap[w7.heap.size]? = some (.cells (sgA x1 h1 n1) 38 (0, 0))) := (by rw [← hw5]; exact setRow_heap _ _ _ _ _ _ HZ4.out.y); have HZ5 : Hid (w5.heap[w7.heap.size + 1]? = some (.cells (siA 0 nilS nilS) 41 (0, 0))) := (by rw [← hw5]; exact (setRow_other _ _ _ _ HIS.out).trans HZ4.out.z); have HB5 : Hid (Below w7.heap.size w7 w5) := (by rw [← hw5]; exact below_setRow HZ4.out.b (Nat.le_refl _) _); have HC5 : Hid (OwnHv w5 0 (.slice sq1 N csq1) cl) := (by rw [← hw5]; exact HC4.out.setRow HZ4.out.y ne_sg _); have HP5 : Hid (OwnHv w5 0 (.slice sq2 M csq2) pl) := (by rw [← hw5]; exact HP4.out.setRow HZ4.out.y ne_sg _); have hz5 : w7.heap.size + 2 ≤ w5.heap.size := (by rw [← hw5]; simp [World.setRow]; have := HZ4.out.k; omega); clear hw5 HC4 HP4 HZ4)
        | (refine wpList_store_row rfl 41 _ _ rfl (w7.heap.size + 1) (siA l1 (.slice sq1 N csq1) (.slice sq2 M csq2)) rfl rfl 41 _ HZ5.out (info_si _ _ _) rfl (one_si _ _ _ _ _ _ _) ?_; generalize hw6 : World.setRow w5 _ _ = w6; have HYB : Hid (w6.heap[w7.heap.size]? = some (.cells (sgA x1 h1 n1) 38 (0, 0))) := (by rw [← hw6]; exact (setRow_other _ _ _ _ (Ne.symm HIS.out)).trans HY5.out); have HZB : Hid (w6.heap[w7.heap.size + 1]? = some (.cells (siA l1 (.slice sq1 N csq1) (.slice sq2 M csq2)) 41 (0, 0))) := (by rw [← hw6]; exact setRow_heap _ _ _ _ _ _ HZ5.out); have HBB : Hid (Below w7.heap.size w7 w6) := (by rw [← hw6]; exact below_setRow HB5.out (Nat.le_succ _) _); have HCB : Hid (OwnHv w6 0 (.slice sq1 N csq1) cl) := (by rw [← hw6]; exact HC5.out.setRow HZ5.out ne_si _); have HPB : Hid (OwnHv w6 0 (.slice sq2 M csq2) pl) := (by rw [← hw6]; exact HP5.out.setRow HZ5.out ne_si _); have hzB : w7.heap.size + 2 ≤ w6.heap.size := (by rw [← hw6]; simp [World.setRow]; omega); clear hw6 HY5 HZ5 HB5 HC5 HP5 hz5))
      have HV9 : Hid (SdBox w x h n d w6) := HV7.out.below HBB.out
      have HY9 : Hid (w6.heap[ga]? = some (.cells (sgA x1 h1 n1) 38 (0, 0))) := (HBB.out.block _ (by omega)).trans HY7.out
      have HZ9 : Hid (w6.heap[ga + 1]? = some (.cells (siA l1 (.slice sp1 N csp1) (.slice sp2 M csp2)) 41 (0, 0))) := (HBB.out.block _ (by omega)).trans HZ7.out
      have HC9 : Hid (OwnHv w6 0 (.slice sp1 N csp1) cl) := HC7.out.below HBB.out
      have HP9 : Hid (OwnHv w6 0 (.slice sp2 M csp2) pl) := HP7.out.below HBB.out
      have hk9 := HV9.out.k
      have hga : ga + 2 ≤ w7.heap.size := by omega
      clear HC3 HP3 HV7 HY7 HZ7 HC7 HP7 HIS HBB hs7 hzA
      generalize w7.heap.size = gb at *
      generalize w6 = vB at *
      refine (awake_any vB (HK.out.below HV9.out.b hk0) (by omega)).mono ?_
      rintro e w8 ⟨rfl, hb⟩
      have HVf : Hid (SdBox w x h n d w8) := HV9.out.below hb
      have HYa : Hid (w8.heap[ga]? = some (.cells (sgA x1 h1 n1) 38 (0, 0))) := (hb.block _ (by omega)).trans HY9.out
      have HZa : Hid (w8.heap[ga + 1]? = some (.cells (siA l1 (.slice sp1 N csp1) (.slice sp2 M csp2)) 41 (0, 0))) := (hb.block _ (by omega)).trans HZ9.out
      have HYb : Hid (w8.heap[gb]? = some (.cells (sgA x1 h1 n1) 38 (0, 0))) := (hb.block _ (by omega)).trans HYB.out
      have HZb : Hid (w8.heap[gb + 1]? = some (.cells (siA l1 (.slice sq1 N csq1) (.slice sq2 M csq2)) 41 (0, 0))) := (hb.block _ (by omega)).trans HZB.out
      have HCa : Hid (OwnHv w8 0 (.slice sp1 N csp1) cl) := HC9.out.below hb
      have HPa : Hid (OwnHv w8 0 (.slice sp2 M csp2) pl) := HP9.out.below hb
      have HCb : Hid (OwnHv w8 0 (.slice sq1 N csq1) cl) := HCB.out.below hb
      have HPb : Hid (OwnHv w8 0 (.slice sq2 M csq2) pl) := HPB.out.below hb
      clear hb HV9 HY9 HZ9 HC9 HP9 HYB HZB HCB HPB
      have HRa := Lib.hid (row_rngK HYa.out); have HRb := Lib.hid (row_rngK HYb.out)
      have HQa := Lib.hid (row_rngK (L := siL l1 (.slice sp1 N csp1) (.slice sp2 M csp2)) HZa.out)
      have HQb := Lib.hid (row_rngK (L := siL l1 (.slice sq1 N csq1) (.slice sq2 M csq2)) HZb.out)
      have qE : (E == E) = true := by simp
      go_wp2_with (first
        | (refine wpList_load_mid_gK (by rfl) 38 _ rfl ga 0 rfl _ _ HRa.out Tryd.underlying38 rfl (info_sgL HR.out.hx) ?_)
        | (refine wpList_load_mid_gK (by rfl) 38 _ rfl gb 0 rfl _ _ HRb.out Tryd.underlying38 rfl (info_sgL HR.out.hx) ?_)
        | (refine wpList_eqK (by rfl) 38 _ _ rfl (sgA x1 h1 n1) (by kernel_rfl) (eqSg x1 h1 n1 HR.out.hx _) rfl rfl ?_)
        | (refine wpList_load_mid_gK (by rfl) 41 _ rfl (ga + 1) 0 rfl _ _ HQa.out Tryd.underlying41 rfl (info_siL l1 (.slice sp1 N csp1) (.slice sp2 M csp2)) ?_)
        | (refine wpList_load_mid_gK (by rfl) 41 _ rfl (gb + 1) 0 rfl _ _ HQb.out Tryd.underlying41 rfl (info_siL l1 (.slice sq1 N csq1) (.slice sq2 M csq2)) ?_))
      refine (rsame_any l1 sp1 sp2 sq1 sq2 N M csp1 csp2 csq1 csq2 cl pl w8 (HCa.out.hvs HR.out.hc) (HPa.out.hvs HR.out.hp) (HCb.out.hvs HR.out.hc) (HPb.out.hvs HR.out.hp) HR.out.hn HR.out.hm).mono ?_
      rintro e wf ⟨rfl, hb⟩
      have HBf : Hid (Below w.heap.size w wf) := HVf.out.b.trans (hb.mono (by have := HVf.out.k; omega))
      clear hb
      go_wp2_with fail
      go_ret
      exact ⟨rfl, HBf.out⟩
  · have q1 : decide (h > 2) = false := by simpa using h1
    go_upto_region 3 with (fail)
    clear c16 c17 q1 h1
    generalize v0 = v at *
    have HV : Hid (SdBox w x h n d v) := HT0.out
    clear HT0
    obtain ⟨x1, h1, n1, l1, E, N, M, cl, pl, hr⟩ := sign_both x h n d HS.out HD.out
    have HR := Lib.hid hr
    clear hr
    go_wp2_with (first | (refine wpList_load_row rfl 38 _ rfl w.heap.size rfl 38 _ (0, 0) _ HV.out.s Tryd.underlying38 rfl (info_sg HS.out) ?_) | (refine wpList_load_row rfl 32 _ rfl (w.heap.size + 1) rfl 32 _ (0, 0) _ HV.out.d Tryd.underlying32 rfl (info_dA HD.out) ?_))
    refine (HR.out.a v (HK.out.below HV.out.b hk0) (by have := HV.out.k; omega)).mono ?_
    rintro e w3 ⟨sp1, csp1, sp2, csp2, rfl, hc, hp, hb⟩
    have HC3 := Lib.hid (hc.base (Nat.zero_le _)); have HP3 := Lib.hid (hp.base (Nat.zero_le _))
    have HV3 : Hid (SdBox w x h n d w3) := HV.out.below hb
    clear hc hp hb HV
    have HZZ := Lib.hid (ZzBox.new w3)
    have HIS : Hid (w3.heap.size + 1 ≠ w3.heap.size) := by show _ ≠ _; omega
    go_wp2_with (first
      | (generalize hz : World.alloc (World.alloc w3 _) _ = w4; have HZ4 : Hid (ZzBox w3 w4) := (by rw [← hz]; exact HZZ.out); clear hz HZZ; have HC4 : Hid (OwnHv w4 0 (.slice sp1 N csp1) cl) := HC3.out.below HZ4.out.b; have HP4 : Hid (OwnHv w4 0 (.slice sp2 M csp2) pl) := HP3.out.below HZ4.out.b; refine wpList_store_row rfl 38 _ _ rfl w3.heap.size (sgA x1 h1 n1) rfl rfl 38 _ HZ4.out.y (info_sg HR.out.hx) (by rw [sgA_size HR.out.hx, sgA_size zh16_H16]) (one_sg _ _ _) ?_; generalize hw5 : World.setRow w4 _ _ = w5; have HY5 : Hid (w5.heap[w3.heap.size]? = some (.cells (sgA x1 h1 n1) 38 (0, 0))) := (by rw [← hw5]; exact setRow_heap _ _ _ _ _ _ HZ4.out.y); have HZ5 : Hid (w5.heap[w3.heap.size + 1]? = some (.cells (siA 0 nilS nilS) 41 (0, 0))) := (by rw [← hw5]; exact (setRow_other _ _ _ _ HIS.out).trans HZ4.out.z); have HB5 : Hid (Below w3.heap.size w3 w5) := (by rw [← hw5]; exact below_setRow HZ4.out.b (Nat.le_refl _) _); have HC5 : Hid (OwnHv w5 0 (.slice sp1 N csp1) cl) := (by rw [← hw5]; exact HC4.out.setRow HZ4.out.y ne_sg _); have HP5 : Hid (OwnHv w5 0 (.slice sp2 M csp2) pl) := (by rw [← hw5]; exact HP4.out.setRow HZ4.out.y ne_sg _); have hz5 : w3.heap.size + 2 ≤ w5.heap.size := (by rw [← hw5]; simp [World.setRow]; have := HZ4.out.k; omega); clear hw5 HC4 HP4 HZ4)
      | (refine wpList_store_row rfl 41 _ _ rfl (w3.heap.size + 1) (siA l1 (.slice sp1 N csp1) (.slice sp2 M csp2)) rfl rfl 41 _ HZ5.out (info_si _ _ _) rfl (one_si _ _ _ _ _ _ _) ?_; generalize hw6 : World.setRow w5 _ _ = w6; have HYA : Hid (w6.heap[w3.heap.size]? = some (.cells (sgA x1 h1 n1) 38 (0, 0))) := (by rw [← hw6]; exact (setRow_other _ _ _ _ (Ne.symm HIS.out)).trans HY5.out); have HZA : Hid (w6.heap[w3.heap.size + 1]? = some (.cells (siA l1 (.slice sp1 N csp1) (.slice sp2 M csp2)) 41 (0, 0))) := (by rw [← hw6]; exact setRow_heap _ _ _ _ _ _ HZ5.out); have HBA : Hid (Below w3.heap.size w3 w6) := (by rw [← hw6]; exact below_setRow HB5.out (Nat.le_succ _) _); have HCA : Hid (OwnHv w6 0 (.slice sp1 N csp1) cl) := (by rw [← hw6]; exact HC5.out.setRow HZ5.out ne_si _); have HPA : Hid (OwnHv w6 0 (.slice sp2 M csp2) pl) := (by rw [← hw6]; exact HP5.out.setRow HZ5.out ne_si _); have hzA : w3.heap.size + 2 ≤ w6.heap.size := (by rw [← hw6]; simp [World.setRow]; omega); clear hw6 HY5 HZ5 HB5 HC5 HP5 hz5; have HV6 : Hid (SdBox w x h n d w6) := HV3.out.below HBA.out)
      | (refine wpList_load_row rfl 38 _ rfl w.heap.size rfl 38 _ (0, 0) _ HV6.out.s Tryd.underlying38 rfl (info_sg HS.out) ?_)
      | (refine wpList_load_row rfl 32 _ rfl (w.heap.size + 1) rfl 32 _ (0, 0) _ HV6.out.d Tryd.underlying32 rfl (info_dA HD.out) ?_))
    have hk3 := HV3.out.k
    clear HC3 HP3 HV3 HBA HIS
    generalize w3.heap.size = ga at *
    generalize w6 = vA at *
    refine (HR.out.b vA).mono ?_
    rintro e w7 ⟨sq1, csq1, sq2, csq2, rfl, hc, hp, hb⟩
    have HC3 := Lib.hid (hc.base (Nat.zero_le _)); have HP3 := Lib.hid (hp.base (Nat.zero_le _))
    have HV7 : Hid (SdBox w x h n d w7) := HV6.out.below hb
    have HY7 : Hid (w7.heap[ga]? = some (.cells (sgA x1 h1 n1) 38 (0, 0))) := (hb.block _ (by omega)).trans HYA.out
    have HZ7 : Hid (w7.heap[ga + 1]? = some (.cells (siA l1 (.slice sp1 N csp1) (.slice sp2 M csp2)) 41 (0, 0))) := (hb.block _ (by omega)).trans HZA.out
    have HC7 : Hid (OwnHv w7 0 (.slice sp1 N csp1) cl) := HCA.out.below hb
    have HP7 : Hid (OwnHv w7 0 (.slice sp2 M csp2) pl) := HPA.out.below hb
    have hs7 := hb.size
    clear hc hp hb HV6 HYA HZA HCA HPA
    have HZZ := Lib.hid (ZzBox.new w7)
    have HIS : Hid (w7.heap.size + 1 ≠ w7.heap.size) := by show _ ≠ _; omega
    go_wp2_with (first
      | (generalize hz : World.alloc (World.alloc w7 _) _ = w4; have HZ4 : Hid (ZzBox w7 w4) := (by rw [← hz]; exact HZZ.out); clear hz HZZ; have HC4 : Hid (OwnHv w4 0 (.slice sq1 N csq1) cl) := HC3.out.below HZ4.out.b; have HP4 : Hid (OwnHv w4 0 (.slice sq2 M csq2) pl) := HP3.out.below HZ4.out.b; refine wpList_store_row rfl 38 _ _ rfl w7.heap.size (sgA x1 h1 n1) rfl rfl 38 _ HZ4.out.y (info_sg HR.out.hx) (by rw [sgA_size HR.out.hx, sgA_size zh16_H16]) (one_sg _ _ _) ?_; generalize hw5 : World.setRow w4 _ _ = w5; have HY5 : Hid (w5.heap[w7.heap.size]? = some (.cells (sgA x1 h1 n1) 38 (0, 0))) := (by rw [← hw5]; exact setRow_heap _ _ _ _ _ _ HZ4.out.y); have HZ5 : Hid (w5.heap[w7.heap.size + 1]? = some (.cells (siA 0 nilS nilS) 41 (0, 0))) := (by rw [← hw5]; exact (setRow_other _ _ _ _ HIS.out).trans HZ4.out.z); have HB5 : Hid (Below w7.heap.size w7 w5) := (by rw [← hw5]; exact below_setRow HZ4.out.b (Nat.le_refl _) _); have HC5 : Hid (OwnHv w5 0 (.slice sq1 N csq1) cl) := (by rw [← hw5]; exact HC4.out.setRow HZ4.out.y ne_sg _); have HP5 : Hid (OwnHv w5 0 (.slice sq2 M csq2) pl) := (by rw [← hw5]; exact HP4.out.setRow HZ4.out.y ne_sg _); have hz5 : w7.heap.size + 2 ≤ w5.heap.size := (by rw [← hw5]; simp [World.setRow]; have := HZ4.out.k; omega); clear hw5 HC4 HP4 HZ4)
      | (refine wpList_store_row rfl 41 _ _ rfl (w7.heap.size + 1) (siA l1 (.slice sq1 N csq1) (.slice sq2 M csq2)) rfl rfl 41 _ HZ5.out (info_si _ _ _) rfl (one_si _ _ _ _ _ _ _) ?_; generalize hw6 : World.setRow w5 _ _ = w6; have HYB : Hid (w6.heap[w7.heap.size]? = some (.cells (sgA x1 h1 n1) 38 (0, 0))) := (by rw [← hw6]; exact (setRow_other _ _ _ _ (Ne.symm HIS.out)).trans HY5.out); have HZB : Hid (w6.heap[w7.heap.size + 1]? = some (.cells (siA l1 (.slice sq1 N csq1) (.slice sq2 M csq2)) 41 (0, 0))) := (by rw [← hw6]; exact setRow_heap _ _ _ _ _ _ HZ5.out); have HBB : Hid (Below w7.heap.size w7 w6) := (by rw [← hw6]; exact below_setRow HB5.out (Nat.le_succ _) _); have HCB : Hid (OwnHv w6 0 (.slice sq1 N csq1) cl) := (by rw [← hw6]; exact HC5.out.setRow HZ5.out ne_si _); have HPB : Hid (OwnHv w6 0 (.slice sq2 M csq2) pl) := (by rw [← hw6]; exact HP5.out.setRow HZ5.out ne_si _); have hzB : w7.heap.size + 2 ≤ w6.heap.size := (by rw [← hw6]; simp [World.setRow]; omega); clear hw6 HY5 HZ5 HB5 HC5 HP5 hz5))
    have HV9 : Hid (SdBox w x h n d w6) := HV7.out.below HBB.out
    have HY9 : Hid (w6.heap[ga]? = some (.cells (sgA x1 h1 n1) 38 (0, 0))) := (HBB.out.block _ (by omega)).trans HY7.out
    have HZ9 : Hid (w6.heap[ga + 1]? = some (.cells (siA l1 (.slice sp1 N csp1) (.slice sp2 M csp2)) 41 (0, 0))) := (HBB.out.block _ (by omega)).trans HZ7.out
    have HC9 : Hid (OwnHv w6 0 (.slice sp1 N csp1) cl) := HC7.out.below HBB.out
    have HP9 : Hid (OwnHv w6 0 (.slice sp2 M csp2) pl) := HP7.out.below HBB.out
    have hk9 := HV9.out.k
    have hga : ga + 2 ≤ w7.heap.size := by omega
    clear HC3 HP3 HV7 HY7 HZ7 HC7 HP7 HIS HBB hs7 hzA
    generalize w7.heap.size = gb at *
    generalize w6 = vB at *
    refine (awake_any vB (HK.out.below HV9.out.b hk0) (by omega)).mono ?_
    rintro e w8 ⟨rfl, hb⟩
    have HVf : Hid (SdBox w x h n d w8) := HV9.out.below hb
    have HYa : Hid (w8.heap[ga]? = some (.cells (sgA x1 h1 n1) 38 (0, 0))) := (hb.block _ (by omega)).trans HY9.out
    have HZa : Hid (w8.heap[ga + 1]? = some (.cells (siA l1 (.slice sp1 N csp1) (.slice sp2 M csp2)) 41 (0, 0))) := (hb.block _ (by omega)).trans HZ9.out
    have HYb : Hid (w8.heap[gb]? = some (.cells (sgA x1 h1 n1) 38 (0, 0))) := (hb.block _ (by omega)).trans HYB.out
    have HZb : Hid (w8.heap[gb + 1]? = some (.cells (siA l1 (.slice sq1 N csq1) (.slice sq2 M csq2)) 41 (0, 0))) := (hb.block _ (by omega)).trans HZB.out
    have HCa : Hid (OwnHv w8 0 (.slice sp1 N csp1) cl) := HC9.out.below hb
    have HPa : Hid (OwnHv w8 0 (.slice sp2 M csp2) pl) := HP9.out.below hb
    have HCb : Hid (OwnHv w8 0 (.slice sq1 N csq1) cl) := HCB.out.below hb
    have HPb : Hid (OwnHv w8 0 (.slice sq2 M csq2) pl) := HPB.out.below hb
    clear hb HV9 HY9 HZ9 HC9 HP9 HYB HZB HCB HPB
    have HRa := Lib.hid (row_rngK HYa.out); have HRb := Lib.hid (row_rngK HYb.out)
    have HQa := Lib.hid (row_rngK (L := siL l1 (.slice sp1 N csp1) (.slice sp2 M csp2)) HZa.out)
    have HQb := Lib.hid (row_rngK (L := siL l1 (.slice sq1 N csq1) (.slice sq2 M csq2)) HZb.out)
    have qE : (E == E) = true := by simp
    go_wp2_with (first
      | (refine wpList_load_mid_gK (by rfl) 38 _ rfl ga 0 rfl _ _ HRa.out Tryd.underlying38 rfl (info_sgL HR.out.hx) ?_)
      | (refine wpList_load_mid_gK (by rfl) 38 _ rfl gb 0 rfl _ _ HRb.out Tryd.underlying38 rfl (info_sgL HR.out.hx) ?_)
      | (refine wpList_eqK (by rfl) 38 _ _ rfl (sgA x1 h1 n1) (by kernel_rfl) (eqSg x1 h1 n1 HR.out.hx _) rfl rfl ?_)
      | (refine wpList_load_mid_gK (by rfl) 41 _ rfl (ga + 1) 0 rfl _ _ HQa.out Tryd.underlying41 rfl (info_siL l1 (.slice sp1 N csp1) (.slice sp2 M csp2)) ?_)
      | (refine wpList_load_mid_gK (by rfl) 41 _ rfl (gb + 1) 0 rfl _ _ HQb.out Tryd.underlying41 rfl (info_siL l1 (.slice sq1 N csq1) (.slice sq2 M csq2)) ?_))
    refine (rsame_any l1 sp1 sp2 sq1 sq2 N M csp1 csp2 csq1 csq2 cl pl w8 (HCa.out.hvs HR.out.hc) (HPa.out.hvs HR.out.hp) (HCb.out.hvs HR.out.hc) (HPb.out.hvs HR.out.hp) HR.out.hn HR.out.hm).mono ?_
    rintro e wf ⟨rfl, hb⟩
    have HBf : Hid (Below w.heap.size w wf) := HVf.out.b.trans (hb.mono (by have := HVf.out.k; omega))
    clear hb
    go_wp2_with fail
    go_ret
    exact ⟨rfl, HBf.out⟩
end Go.Proofs.YthbcpcddanknhaaDoor
