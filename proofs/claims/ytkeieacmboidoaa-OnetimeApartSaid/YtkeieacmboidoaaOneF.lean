/-
  One-time signatures: the statements' own check awake, and the walk of OnetimeDigits (condition: a digest of 32 bytes).
-/
import Derived.Test.YtkeieacmboidoaaOneE
namespace Go.Proofs.Ytkeieacmboidoaa
open Go.RowKit Go.Proofs.Ytkeieacmboidoaa.One

theorem OwnN.cells {w : World} {base : Nat} {sp : Option Addr} {n cap : Nat} {l : List Int} (h : OwnN w base (.slice sp n cap) l) (hl : l.length = n) (hn : 0 < n) :
    ∃ g, sp = some ⟨g, 0, none⟩ ∧ g < w.heap.size ∧ n ≤ cap ∧ ∀ j, j < n → w.cell? ⟨g, j, none⟩ = some (.int .i64 (l.getD j 0)) := by
  obtain ⟨h0, h | ⟨g, c, cur, e, hg, h1, h2, h3, h4, h5⟩⟩ := h
  · have e := h.1; simp only [Value.slice.injEq] at e; omega
  · simp only [Value.slice.injEq] at e
    obtain ⟨e1, e2, e3⟩ := e
    subst e3
    refine ⟨g, e1, (Array.getElem?_eq_some_iff.1 h1).1, by omega, fun j hj => ?_⟩
    rw [cell_of_row w g j _ _ _ h1]
    have h6 : (nv l)[j]? = some (.int .i64 (l.getD j 0)) := by
      unfold nv
      rw [List.getElem?_map, List.getD_eq_getElem?_getD, List.getElem?_eq_getElem (by omega)]; rfl
    rw [← h5, List.getElem?_take, if_pos (by omega)] at h6
    simpa using h6
theorem zed_digs : digs zed = List.replicate 64 0 ++ [3, 0, 0, 0] := by decide +kernel
theorem zed_arg : dgA zed = #[Value.int .u8 0, Value.int .u8 0, Value.int .u8 0, Value.int .u8 0, Value.int .u8 0, Value.int .u8 0, Value.int .u8 0, Value.int .u8 0, Value.int .u8 0, Value.int .u8 0, Value.int .u8 0, Value.int .u8 0, Value.int .u8 0, Value.int .u8 0, Value.int .u8 0, Value.int .u8 0, Value.int .u8 0, Value.int .u8 0, Value.int .u8 0, Value.int .u8 0, Value.int .u8 0, Value.int .u8 0, Value.int .u8 0, Value.int .u8 0, Value.int .u8 0, Value.int .u8 0, Value.int .u8 0, Value.int .u8 0, Value.int .u8 0, Value.int .u8 0, Value.int .u8 0, Value.int .u8 0] := rfl
set_option maxRecDepth 100000 in
set_option maxHeartbeats 1000000 in
theorem awake8_any (w : World) : Calls Try.prog 7 #[] w fun e w' => e = .returned (.bool true) ∧ Below w.heap.size w w' := by
  have HC := Lib.hid (digits_any zed D32.zed w)
  rw [zed_arg] at HC
  go_enter Try.func7, Try.ntmps7
  go_wp2_with fail
  refine HC.out.mono ?_
  rintro e w1 ⟨sp, cap, rfl, hown, hb⟩
  obtain ⟨g, rfl, hg, hc, hr⟩ := hown.cells (digs_length D32.zed.1) (by decide)
  have c0 := hr 0 (by decide); have c1 := hr 64 (by decide); have c2 := hr 65 (by decide)
  have HB := Lib.hid hb
  rw [zed_digs] at c0 c1 c2
  have e0 : (List.replicate 64 (0 : Int) ++ [3, 0, 0, 0]).getD 0 0 = 0 := rfl
  have e1 : (List.replicate 64 (0 : Int) ++ [3, 0, 0, 0]).getD 64 0 = 3 := rfl
  have e2 : (List.replicate 64 (0 : Int) ++ [3, 0, 0, 0]).getD 65 0 = 0 := rfl
  rw [e0] at c0; rw [e1] at c1; rw [e2] at c2
  clear hown hr hb e0 e1 e2 HC hg hc
  go_wp2
  go_wp2
  go_ret
  exact ⟨rfl, HB.out⟩

set_option maxRecDepth 100000 in
set_option maxHeartbeats 4000000 in
theorem onetimeDigits_any (d : List Int) (w : World) (hd : D32 d) :
    Calls Try.prog 3 #[.agg (dgA d)] w fun e w' => e = .returned (.bool true) ∧ Below w.heap.size w w' := by
  have HD := Lib.hid hd
  have HID := Lib.hid (info_d hd)
  have HL := Lib.hid (digs_length hd.1)
  have HRG := Lib.hid (fun y (hy : y ∈ digs d) => digs_range hy)
  have HN := Lib.hid (heap_alloc_new w (.cells (dgA d) 23))
  have HB := Lib.hid ((Below.refl w.heap.size w).alloc (Nat.le_refl _) (.cells (dgA d) 23))
  have HZ := Lib.hid (World.size_alloc w (.cells (dgA d) 23))
  have HCA := Lib.hid (fun w' => show Calls Try.prog 5 #[.agg (d.map (Value.int .u8)).toArray] w' _ from digits_any d hd w')
  have HCB := Lib.hid (fun w' => show Calls Try.prog 6 #[.agg (d.map (Value.int .u8)).toArray] w' _ from rdigits_any d hd w')
  clear hd
  go_enter Try.func3, Try.ntmps3
  go_wp2_with fail
  generalize hw0 : World.alloc w _ = w0
  have HR0 : Hid (w0.rangeAt w.heap.size 0 (d.map (Value.int .u8))) := by
    rw [← hw0]; intro j v hv; rw [Nat.zero_add]; exact heap_cellO HN.out hv
  have HB0 : Hid (Below w.heap.size w w0) := by rw [← hw0]; exact HB.out
  have hs0 : w.heap.size < w0.heap.size := by have := HZ.out; rw [hw0] at this; omega
  clear hw0 HN HB HZ
  refine wp_region_held_drew (S := fun w' => Below w0.heap.size w0 w') (by kernel_rfl) (Below.refl _ _).drew (fun hHeld => ?_)
  refine' wpAnyH_take (i := 0) (oi := _) (v := _) rfl (by kernel_rfl) (by kernel_rfl) (by kernel_rfl) (fun _ _ _ h => h) (yieldsIf_load_mid (by rfl) _ _ rfl _ _ rfl _ _ ?hS0n1 Try.underlying23 rfl HID.out) (by assumption) ?rest0n1
  case hS0n1 =>
    intro w' hSw
    exact range_belowG HR0.out hSw hs0
  try simp only [Act.put, List.getElem_toArray, List.getElem_cons_succ, List.getElem_cons_zero, List.setIfInBounds_toArray, List.set_cons_zero, List.set_cons_succ]
  refine' wpAnyH_take (i := 2) (oi := _) (v := _) rfl (by kernel_rfl) (by kernel_rfl) (by kernel_rfl) (fun _ _ _ h => h) (yieldsIf_load_mid (by rfl) _ _ rfl _ _ rfl _ _ ?hS2n2 Try.underlying23 rfl HID.out) (by assumption) ?rest2n2
  case hS2n2 =>
    intro w' hSw
    exact range_belowG HR0.out hSw hs0
  try simp only [Act.put, List.getElem_toArray, List.getElem_cons_succ, List.getElem_cons_zero, List.setIfInBounds_toArray, List.set_cons_zero, List.set_cons_succ]
  refine wpAnyH_ready (rs := [1]) (by kernel_rfl) (by simp) (AllReadyH.cons (o := _) rfl (fun K hK => ?_) AllReadyH.nil)
  go_simp
  with_reducible refine (HCA.out _).mono ?_
  rintro e w1 ⟨sp1, cap1, rfl, hown1, hb1⟩
  have HB1 : Hid (Below w0.heap.size w0 w1) := hHeld.trans (hb1.mono hHeld.size)
  have HO1a := Lib.hid hown1
  clear hown1 hb1
  go_wp2_with fail
  refine hK.out _ _ HB1.out (fun hHeld => ?_)
  clear hK K
  try simp only [Act.put, List.getElem_toArray, List.getElem_cons_succ, List.getElem_cons_zero, List.setIfInBounds_toArray, List.set_cons_zero, List.set_cons_succ]
  refine wpAnyH_ready (rs := [3]) (by kernel_rfl) (by simp) (AllReadyH.cons (o := _) rfl (fun K hK => ?_) AllReadyH.nil)
  go_simp
  with_reducible refine (HCB.out _).mono ?_
  rintro e w2 ⟨sp2, cap2, rfl, hown2, hb2⟩
  have HB2 : Hid (Below w0.heap.size w0 w2) := HB1.out.trans (hb2.mono HB1.out.size)
  have HO1 := Lib.hid (HO1a.out.below hb2)
  have HO2 := Lib.hid hown2
  clear hown2 hb2
  go_wp2_with fail
  refine hK.out _ _ HB2.out (fun hHeld => ?_)
  clear hK K
  try simp only [Act.put, List.getElem_toArray, List.getElem_cons_succ, List.getElem_cons_zero, List.setIfInBounds_toArray, List.set_cons_zero, List.set_cons_succ]
  refine wpAnyH_take (i := 4) (oi := _) (v := ?v4n3) rfl (by kernel_rfl) (by kernel_rfl) (by kernel_rfl) (fun _ _ _ h => h) (Or.inl ⟨by rfl, ?hy4n3⟩) (by assumption) ?rest4n3
  case hy4n3 =>
    intro w' hSw
    go_simp
    try with_reducible rfl
  try simp only [Act.put, List.getElem_toArray, List.getElem_cons_succ, List.getElem_cons_zero, List.setIfInBounds_toArray, List.set_cons_zero, List.set_cons_succ]
  refine wpAnyH_take (i := 5) (oi := _) (v := ?v5n4) rfl (by kernel_rfl) (by kernel_rfl) (by kernel_rfl) (fun _ _ _ h => h) (Or.inl ⟨by rfl, ?hy5n4⟩) (by assumption) ?rest5n4
  case hy5n4 =>
    intro w' hSw
    go_simp
    try with_reducible rfl
  try simp only [Act.put, List.getElem_toArray, List.getElem_cons_succ, List.getElem_cons_zero, List.setIfInBounds_toArray, List.set_cons_zero, List.set_cons_succ]
  refine wpAnyH_done (by kernel_rfl) ?_ _
  go_wp2_with fail
  obtain ⟨g1, rfl, hg1, hc1, hr1⟩ := HO1.out.cells HL.out (by decide)
  obtain ⟨g2, rfl, hg2, hc2, hr2⟩ := HO2.out.cells HL.out (by decide)
  have HR1 := Lib.hid hr1; have HR2 := Lib.hid hr2
  clear hr1 hr2 HCA HCB
  go_loopw [5] (fun i wr => ∃ k n : Nat, k ≤ 68 ∧ i = .int .i64 k ∧ wr = w2.drewN n) (fun i _ => 68 - (intOf i).toNat)
  case atStart => exact ⟨0, 0, by omega, rfl, rfl⟩
  case round =>
    obtain ⟨k, n, hk, rfl, hwr⟩ := hrel
    have HWR := Lib.hid hwr; clear hwr
    by_cases hlt : k < 68
    · have c1 : wr.cell? ⟨g1, k, none⟩ = some (.int .i64 ((digs d).getD k 0)) := by rw [HWR.out]; exact HR1.out k hlt
      have c2 : wr.cell? ⟨g2, k, none⟩ = some (.int .i64 ((digs d).getD k 0)) := by rw [HWR.out]; exact HR2.out k hlt
      have hx : 0 ≤ (digs d).getD k 0 ∧ (digs d).getD k 0 ≤ 3 := by
        have e : (digs d).getD k 0 = (digs d)[k]'(by have := HL.out; omega) := by rw [List.getD_eq_getElem?_getD, List.getElem?_eq_getElem (by have := HL.out; omega)]; rfl
        rw [e]; exact HRG.out _ (List.getElem_mem _)
      generalize (digs d).getD k 0 = x at *
      have hd1 : decide ((k : Int) < 68) = true := by simp; omega
      have p1 : (0 : Int) ≤ (k : Int) := by omega
      have p2 : (k : Int) < 68 := by omega
      have q1 : decide (x < 0) = false := by simp; omega
      have q2 : decide (x > 3) = false := by simp; omega
      go_wp2_with fail
      go_quiet (fail)
      go_wp2
      go_roundw
      case rel => exact ⟨k + 1, n + nq, by omega, by go_num, by rw [HWR.out, World.drewN_drewN]⟩
      case measure => simp [intOf]; omega
    · obtain rfl : k = 68 := by omega
      have HBW : Hid (Below w.heap.size w wr) := by rw [HWR.out]; exact below_drewN (HB0.out.trans (HB2.out.mono (by omega))) _
      go_wp2_with fail
      refine (awake8_any wr).mono ?_
      rintro e w5 ⟨rfl, hb5⟩
      have HB5 := Lib.hid hb5; clear hb5
      go_wp2
      go_ret
      exact ⟨rfl, HBW.out.trans (HB5.out.mono HBW.out.size)⟩
end Go.Proofs.Ytkeieacmboidoaa
