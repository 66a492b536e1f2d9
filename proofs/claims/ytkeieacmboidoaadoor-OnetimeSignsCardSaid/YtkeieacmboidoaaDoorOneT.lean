/-
  One-time signatures: the walk of OnetimeClimbs (conditions: the arguments read as a half and numbers; the table of constants reads as it is laid).
-/
import Derived.Test.YtkeieacmboidoaaDoorOneS
namespace Go.Proofs.YtkeieacmboidoaaDoor
open Go.RowKit Go.Proofs.YtkeieacmboidoaaDoor.One

/-- three boxes: an array of bytes, two numbers, three numbers -/
structure Tri (w : World) (x : List Int) (n0 n1 t0 t1 t2 : Int) (w0 : World) : Prop where
  x : w0.heap[w.heap.size]? = some (.cells (hvA x) 23 (0, 0))
  n : w0.heap[w.heap.size + 1]? = some (.cells #[.int .i64 n0, .int .i64 n1] 31 (0, 0))
  t : w0.heap[w.heap.size + 2]? = some (.cells #[.int .i64 t0, .int .i64 t1, .int .i64 t2] 32 (0, 0))
  b : Below w.heap.size w w0
  s : w0.heap.size = w.heap.size + 3
theorem Tri.new (w : World) (x : List Int) (n0 n1 t0 t1 t2 : Int) : Tri w x n0 n1 t0 t1 t2 (((w.alloc (.cells (hvA x) 23)).alloc (.cells #[.int .i64 n0, .int .i64 n1] 31)).alloc (.cells #[.int .i64 t0, .int .i64 t1, .int .i64 t2] 32)) := by
  have h1 := heap_alloc_new w (.cells (hvA x) 23)
  have b1 := below_alloc w (.cells (hvA x) 23)
  have s1 := alloc_size w (.cells (hvA x) 23)
  generalize w.alloc (.cells (hvA x) 23) = w1 at *
  have h2 := heap_alloc_new w1 (.cells #[.int .i64 n0, .int .i64 n1] 31)
  have b2 := below_alloc w1 (.cells #[.int .i64 n0, .int .i64 n1] 31)
  have s2 := alloc_size w1 (.cells #[.int .i64 n0, .int .i64 n1] 31)
  generalize w1.alloc (.cells #[.int .i64 n0, .int .i64 n1] 31) = w2 at *
  have h3 := heap_alloc_new w2 (.cells #[.int .i64 t0, .int .i64 t1, .int .i64 t2] 32)
  have b3 := below_alloc w2 (.cells #[.int .i64 t0, .int .i64 t1, .int .i64 t2] 32)
  have s3 := alloc_size w2 (.cells #[.int .i64 t0, .int .i64 t1, .int .i64 t2] 32)
  generalize w2.alloc (.cells #[.int .i64 t0, .int .i64 t1, .int .i64 t2] 32) = w3 at *
  rw [s1] at h2; rw [s2, s1] at h3
  exact ⟨(b3.block _ (by omega)).trans ((b2.block _ (by omega)).trans h1), (b3.block _ (by omega)).trans h2, h3, b1.trans ((b2.mono (by omega)).trans (b3.mono (by omega))), by omega⟩
theorem tmod4 (x : Int) : Int.tmod (Int.tmod x 4 + 4) 4 = x % 4 := by
  have h := Int.tmod_eq_emod (a := x) (b := 4)
  rw [h]
  split
  · rw [Int.tmod_eq_emod_of_nonneg (by omega)]; omega
  · rw [Int.tmod_eq_emod_of_nonneg (by have := Int.emod_nonneg x (show (4 : Int) ≠ 0 by decide); simp; omega)]; simp
theorem tmod_range (x : Int) : -3 ≤ Int.tmod x 4 ∧ Int.tmod x 4 ≤ 3 := by
  have h := Int.tmod_eq_emod (a := x) (b := 4)
  rw [h]; split
  · omega
  · simp; omega
theorem md4 (x : Int) : (wrap64 (Int.tmod x 4 + 4)).tmod 4 = x % 4 := by
  have h := tmod_range x
  rw [wrap64_in (by omega) (by omega)]
  exact tmod4 x
theorem clN_more {x : List Int} (leaf c fr : Int) (m : Nat) : ∀ n, clN x leaf c fr (m + n) = clN (clN x leaf c fr m) leaf c (fr + m) n
  | 0 => rfl
  | n + 1 => by
    rw [← Nat.add_assoc]
    show stepB (clN x leaf c fr (m + n)) leaf c (fr + ((m + n : Nat) : Int)) = stepB (clN (clN x leaf c fr m) leaf c (fr + m) n) leaf c (fr + m + n)
    rw [clN_more leaf c fr m n, show fr + ((m + n : Nat) : Int) = fr + m + n by omega]
theorem climb_trans {x : List Int} (leaf k a b c : Int) (h0 : 0 ≤ a) (h1 : a ≤ b) (h2 : b ≤ c) (h3 : c ≤ 3) : climbB (climbB x leaf k a b) leaf k b c = climbB x leaf k a c := by
  unfold climbB
  rw [if_neg (by omega), if_neg (by omega), if_neg (by omega)]
  have e1 : b = a + ((b - a).toNat : Int) := by omega
  have e2 : (c - a).toNat = (b - a).toNat + (c - b).toNat := by omega
  rw [e2, clN_more, ← e1]
theorem climb_none {x : List Int} (leaf k a : Int) : climbB x leaf k a a = x := by
  unfold climbB
  split
  · rfl
  · rw [show (a - a).toNat = 0 by omega]; rfl
set_option maxRecDepth 100000 in
set_option maxHeartbeats 4000000 in
theorem onetimeClimbs_any (x : List Int) (n0 n1 t0 t1 t2 : Int) (w : World) (hx : H16 x) (hn0 : -9223372036854775808 ≤ n0 ∧ n0 ≤ 9223372036854775807) (hn1 : -9223372036854775808 ≤ n1 ∧ n1 ≤ 9223372036854775807) (ht0 : -9223372036854775808 ≤ t0 ∧ t0 ≤ 9223372036854775807) (ht1 : -9223372036854775808 ≤ t1 ∧ t1 ≤ 9223372036854775807) (ht2 : -9223372036854775808 ≤ t2 ∧ t2 ≤ 9223372036854775807) (hk : KayIn w) (hk0 : 0 < w.heap.size) :
    Calls Tryd.prog 4 #[.agg (hvA x), .agg #[.int .i64 n0, .int .i64 n1], .agg #[.int .i64 t0, .int .i64 t1, .int .i64 t2]] w fun e w' => e = .returned (.bool true) ∧ Below w.heap.size w w' := by
  have HX := Lib.hid hx; have HID := Lib.hid (info_h2 hx)
  have HT := Lib.hid (Tri.new w x n0 n1 t0 t1 t2)
  have HKI := Lib.hid hk
  clear hx hk hn0 hn1 ht0 ht1 ht2
  go_enter Tryd.func4, Tryd.ntmps4
  go_wp2_with fail
  generalize hw0 : World.alloc (World.alloc (World.alloc w _) _) _ = w0
  have HT0 : Hid (Tri w x n0 n1 t0 t1 t2 w0) := by rw [← hw0]; exact HT.out
  clear hw0 HT
  have c1 : w0.cell? ⟨w.heap.size + 1, 0, none⟩ = some (.int .i64 n0) := by rw [cell_of_row w0 _ 0 _ _ _ HT0.out.n]; rfl
  have c2 : w0.cell? ⟨w.heap.size + 1, 1, none⟩ = some (.int .i64 n1) := by rw [cell_of_row w0 _ 1 _ _ _ HT0.out.n]; rfl
  have c3 : w0.cell? ⟨w.heap.size + 2, 0, none⟩ = some (.int .i64 t0) := by rw [cell_of_row w0 _ 0 _ _ _ HT0.out.t]; rfl
  have c4 : w0.cell? ⟨w.heap.size + 2, 1, none⟩ = some (.int .i64 t1) := by rw [cell_of_row w0 _ 1 _ _ _ HT0.out.t]; rfl
  have c5 : w0.cell? ⟨w.heap.size + 2, 2, none⟩ = some (.int .i64 t2) := by rw [cell_of_row w0 _ 2 _ _ _ HT0.out.t]; rfl
  go_quiet (fail)
  generalize nq = m1 at *
  go_wp2_with fail
  go_quiet (fail)
  simp only [md4]
  have ha : 0 ≤ t0 % 4 ∧ t0 % 4 ≤ 3 := by omega
  have hb : 0 ≤ t1 % 4 ∧ t1 % 4 ≤ 3 := by omega
  have hc : 0 ≤ t2 % 4 ∧ t2 % 4 ≤ 3 := by omega
  generalize t0 % 4 = a at *
  generalize t1 % 4 = b at *
  generalize t2 % 4 = c at *
  obtain ⟨ha0, ha3⟩ := ha
  obtain ⟨hb0, hb3⟩ := hb
  obtain ⟨hc0, hc3⟩ := hc
  have HX1 : Hid (((w0.drewN m1).drewN nq).heap[w.heap.size]? = some (.cells (hvA x) 23 (0, 0))) := HT0.out.x
  have HB1 : Hid (Below w.heap.size w ((w0.drewN m1).drewN nq)) := below_drewN (below_drewN HT0.out.b _) _
  have HS1 : Hid (((w0.drewN m1).drewN nq).heap.size = w.heap.size + 3) := HT0.out.s
  generalize (w0.drewN m1).drewN nq = w1 at *
  clear c1 c2 c3 c4 c5 HT0
  have hs1 : w.heap.size < w1.heap.size := by have := HS1.out; omega
  have HK1 : Hid (KayIn w1) := HKI.out.below HB1.out hk0
  have hk1 : 0 < w1.heap.size := by omega
  by_cases hbad : a > b ∨ b > c
  · rcases (by omega : a > b ∨ (¬ a > b ∧ b > c)) with h1 | ⟨h1, h2⟩
    all_goals
      first
        | (have q1 : decide (a > b) = true := by simp; omega)
        | (have q1 : decide (a > b) = false := by simp; omega)
      try (have q2 : decide (b > c) = true := by simp; omega)
      clear hbad
      go_wp2_with fail
      refine (awake8_any _).mono ?_
      rintro e w5 ⟨rfl, hb5⟩
      have HB5 := Lib.hid hb5; clear hb5
      go_wp2_with fail
      go_ret
      exact ⟨rfl, HB1.out.trans (HB5.out.mono HB1.out.size)⟩
  · have q1 : decide (a > b) = false := by simp; omega
    have q2 : decide (b > c) = false := by simp; omega
    have hab : a ≤ b := by omega
    have hbc : b ≤ c := by omega
    have hq1 : ¬ a > b := by omega
    have hq2 : ¬ b > c := by omega
    clear hbad
    go_wp2_with (refine wpList_load_row rfl 23 _ rfl w.heap.size rfl 23 _ (0, 0) _ HX1.out Tryd.underlying23 rfl (info_h HX.out) ?_)
    refine (climb_any x n0 n1 a b w1 HX.out HK1.out hk1).mono ?_
    rintro e w2 ⟨rfl, hb2⟩
    have HB2 := Lib.hid hb2; clear hb2
    have HY := Lib.hid (climbB_H16 HX.out n0 n1 a b)
    have HTR := Lib.hid (climb_trans (x := x) n0 n1 a b c ha0 hab hbc hc3)
    have HTN := Lib.hid (climb_none (x := x) n0 n1 c)
    generalize climbB x n0 n1 a b = y at *
    have HZN := Lib.hid (heap_alloc_new w2 (.cells (Array.replicate 16 (Value.int .u8 0)) 23))
    have HYN := Lib.hid (heap_alloc_new w2 (.cells (hvA y) 23))
    have HYB := Lib.hid (below_alloc w2 (.cells (hvA y) 23))
    have HYS := Lib.hid (alloc_size w2 (.cells (hvA y) 23))
    go_wp2_with (refine wpList_store_row rfl 23 _ _ rfl w2.heap.size _ rfl rfl 23 _ HZN.out (info_h HY.out) (size_h HY.out) (one_h _) ?_; rw [setRow_new])
    generalize hw3 : World.alloc w2 _ = w3
    have HRY : Hid (w3.rangeAt w2.heap.size 0 (y.map (Value.int .u8))) := by
      rw [← hw3]; intro j v hv; rw [Nat.zero_add]; exact heap_cellO HYN.out hv
    have HB23 : Hid (Below w2.heap.size w2 w3) := by rw [← hw3]; exact HYB.out
    have hsy : w2.heap.size < w3.heap.size := by have h := HYS.out; rw [hw3] at h; omega
    clear hw3 HZN HYN HYB HYS
    have HB13 : Hid (Below w1.heap.size w1 w3) := HB2.out.trans (HB23.out.mono HB2.out.size)
    have hsx : w.heap.size < w3.heap.size := by have := HB13.out.size; omega
    have HRX : Hid (w3.rangeAt w.heap.size 0 (x.map (Value.int .u8))) := by
      refine range_belowG (B := w1.heap.size) ?_ HB13.out hs1
      intro j v hv; rw [Nat.zero_add]; exact heap_cellO HX1.out hv
    have HK3 : Hid (KayIn w3) := HK1.out.below HB13.out hk1
    have hk3 : 0 < w3.heap.size := by omega
    have HBW3 : Hid (Below w.heap.size w w3) := HB1.out.trans (HB13.out.mono (by omega))
    have hsw3 : w.heap.size ≤ w3.heap.size := by omega
    have HIY := Lib.hid (info_h2 HY.out)
    have HC1 := Lib.hid (fun w' (hk : KayIn w') (hk0 : 0 < w'.heap.size) => (show Calls Tryd.prog 10 #[.agg ((y).map (Value.int .u8)).toArray, .int .i64 n0, .int .i64 n1, .int .i64 b, .int .i64 c] w' fun e w'' => e = .returned (.agg (hvA (climbB x n0 n1 a c))) ∧ Below w'.heap.size w' w'' from by rw [← HTR.out]; exact climb_any y n0 n1 b c w' HY.out hk hk0))
    have HC2 := Lib.hid (fun w' (hk : KayIn w') (hk0 : 0 < w'.heap.size) => (show Calls Tryd.prog 10 #[.agg ((x).map (Value.int .u8)).toArray, .int .i64 n0, .int .i64 n1, .int .i64 a, .int .i64 c] w' fun e w'' => e = .returned (.agg (hvA (climbB x n0 n1 a c))) ∧ Below w'.heap.size w' w'' from climb_any x n0 n1 a c w' HX.out hk hk0))
    have HC3 := Lib.hid (fun w' (hk : KayIn w') (hk0 : 0 < w'.heap.size) => (show Calls Tryd.prog 10 #[.agg ((x).map (Value.int .u8)).toArray, .int .i64 n0, .int .i64 n1, .int .i64 c, .int .i64 c] w' fun e w'' => e = .returned (.agg (hvA (x))) ∧ Below w'.heap.size w' w'' from by have h := climb_any x n0 n1 c c w' HX.out hk hk0; rw [HTN.out] at h; exact h))
    clear HX1 HB1 HS1 hs1 HK1 hk1 HB2 HB23 HB13 HKI q1 q2 hq1 hq2
    go_wp2_with fail
    refine wp_region_held_drew (S := fun w' => Below w3.heap.size w3 w') (by kernel_rfl) (Below.refl _ _).drew (fun hHeld => ?_)
    refine wpAnyH_ready (rs := [0]) (by kernel_rfl) (by simp) (AllReadyH.cons (o := _) rfl (fun K hK => ?_) AllReadyH.nil)
    go_simp
    with_reducible refine (awake8_any _).mono ?_
    rintro e w4 ⟨rfl, hb⟩
    have HBw4 : Hid (Below w3.heap.size w3 w4) := hHeld.trans (hb.mono hHeld.size)
    clear hb
    have HKw4 := Lib.hid (HK3.out.below HBw4.out hk3)
    have hkw4 : 0 < w4.heap.size := by have := HBw4.out.size; omega
    go_wp2_with fail
    refine hK.out _ _ HBw4.out (fun hHeld => ?_)
    clear hK K
    try simp only [Act.put, List.getElem_toArray, List.getElem_cons_succ, List.getElem_cons_zero, List.setIfInBounds_toArray, List.set_cons_zero, List.set_cons_succ]
    refine wpAnyH_take (i := 1) (oi := _) (v := ?v1n1) rfl (by kernel_rfl) (by kernel_rfl) (by kernel_rfl) (fun _ _ _ h => h) (Or.inl ⟨by rfl, ?hy1n1⟩) (by assumption) ?rest1n1
    case hy1n1 =>
      intro w' hSw
      go_simp
      try with_reducible rfl
    try simp only [Act.put, List.getElem_toArray, List.getElem_cons_succ, List.getElem_cons_zero, List.setIfInBounds_toArray, List.set_cons_zero, List.set_cons_succ]
    refine' wpAnyH_take (i := 2) (oi := _) (v := _) rfl (by kernel_rfl) (by kernel_rfl) (by kernel_rfl) (fun _ _ _ h => h) (yieldsIf_load_mid (by rfl) _ _ rfl _ _ rfl _ _ ?hS2n2 Tryd.underlying23 rfl HIY.out) (by assumption) ?rest2n2
    case hS2n2 =>
      intro w' hSw
      exact range_belowG HRY.out hSw hsy
    try simp only [Act.put, List.getElem_toArray, List.getElem_cons_succ, List.getElem_cons_zero, List.setIfInBounds_toArray, List.set_cons_zero, List.set_cons_succ]
    refine wpAnyH_take (i := 3) (oi := _) (v := ?v3n3) rfl (by kernel_rfl) (by kernel_rfl) (by kernel_rfl) (fun _ _ _ h => h) (Or.inl ⟨by rfl, ?hy3n3⟩) (by assumption) ?rest3n3
    case hy3n3 =>
      intro w' hSw
      go_simp
      try with_reducible rfl
    try simp only [Act.put, List.getElem_toArray, List.getElem_cons_succ, List.getElem_cons_zero, List.setIfInBounds_toArray, List.set_cons_zero, List.set_cons_succ]
    refine wpAnyH_take (i := 4) (oi := _) (v := ?v4n4) rfl (by kernel_rfl) (by kernel_rfl) (by kernel_rfl) (fun _ _ _ h => h) (Or.inl ⟨by rfl, ?hy4n4⟩) (by assumption) ?rest4n4
    case hy4n4 =>
      intro w' hSw
      go_simp
      try with_reducible rfl
    try simp only [Act.put, List.getElem_toArray, List.getElem_cons_succ, List.getElem_cons_zero, List.setIfInBounds_toArray, List.set_cons_zero, List.set_cons_succ]
    refine wpAnyH_take (i := 5) (oi := _) (v := ?v5n5) rfl (by kernel_rfl) (by kernel_rfl) (by kernel_rfl) (fun _ _ _ h => h) (Or.inl ⟨by rfl, ?hy5n5⟩) (by assumption) ?rest5n5
    case hy5n5 =>
      intro w' hSw
      go_simp
      try with_reducible rfl
    try simp only [Act.put, List.getElem_toArray, List.getElem_cons_succ, List.getElem_cons_zero, List.setIfInBounds_toArray, List.set_cons_zero, List.set_cons_succ]
    refine wpAnyH_take (i := 6) (oi := _) (v := ?v6n6) rfl (by kernel_rfl) (by kernel_rfl) (by kernel_rfl) (fun _ _ _ h => h) (Or.inl ⟨by rfl, ?hy6n6⟩) (by assumption) ?rest6n6
    case hy6n6 =>
      intro w' hSw
      go_simp
      try with_reducible rfl
    try simp only [Act.put, List.getElem_toArray, List.getElem_cons_succ, List.getElem_cons_zero, List.setIfInBounds_toArray, List.set_cons_zero, List.set_cons_succ]
    refine' wpAnyH_take (i := 8) (oi := _) (v := _) rfl (by kernel_rfl) (by kernel_rfl) (by kernel_rfl) (fun _ _ _ h => h) (yieldsIf_load_mid (by rfl) _ _ rfl _ _ rfl _ _ ?hS8n7 Tryd.underlying23 rfl HID.out) (by assumption) ?rest8n7
    case hS8n7 =>
      intro w' hSw
      exact range_belowG HRX.out hSw hsx
    try simp only [Act.put, List.getElem_toArray, List.getElem_cons_succ, List.getElem_cons_zero, List.setIfInBounds_toArray, List.set_cons_zero, List.set_cons_succ]
    refine wpAnyH_take (i := 9) (oi := _) (v := ?v9n8) rfl (by kernel_rfl) (by kernel_rfl) (by kernel_rfl) (fun _ _ _ h => h) (Or.inl ⟨by rfl, ?hy9n8⟩) (by assumption) ?rest9n8
    case hy9n8 =>
      intro w' hSw
      go_simp
      try with_reducible rfl
    try simp only [Act.put, List.getElem_toArray, List.getElem_cons_succ, List.getElem_cons_zero, List.setIfInBounds_toArray, List.set_cons_zero, List.set_cons_succ]
    refine wpAnyH_take (i := 10) (oi := _) (v := ?v10n9) rfl (by kernel_rfl) (by kernel_rfl) (by kernel_rfl) (fun _ _ _ h => h) (Or.inl ⟨by rfl, ?hy10n9⟩) (by assumption) ?rest10n9
    case hy10n9 =>
      intro w' hSw
      go_simp
      try with_reducible rfl
    try simp only [Act.put, List.getElem_toArray, List.getElem_cons_succ, List.getElem_cons_zero, List.setIfInBounds_toArray, List.set_cons_zero, List.set_cons_succ]
    refine wpAnyH_take (i := 11) (oi := _) (v := ?v11n10) rfl (by kernel_rfl) (by kernel_rfl) (by kernel_rfl) (fun _ _ _ h => h) (Or.inl ⟨by rfl, ?hy11n10⟩) (by assumption) ?rest11n10
    case hy11n10 =>
      intro w' hSw
      go_simp
      try with_reducible rfl
    try simp only [Act.put, List.getElem_toArray, List.getElem_cons_succ, List.getElem_cons_zero, List.setIfInBounds_toArray, List.set_cons_zero, List.set_cons_succ]
    refine wpAnyH_take (i := 12) (oi := _) (v := ?v12n11) rfl (by kernel_rfl) (by kernel_rfl) (by kernel_rfl) (fun _ _ _ h => h) (Or.inl ⟨by rfl, ?hy12n11⟩) (by assumption) ?rest12n11
    case hy12n11 =>
      intro w' hSw
      go_simp
      try with_reducible rfl
    try simp only [Act.put, List.getElem_toArray, List.getElem_cons_succ, List.getElem_cons_zero, List.setIfInBounds_toArray, List.set_cons_zero, List.set_cons_succ]
    refine wpAnyH_ready (rs := [7]) (by kernel_rfl) (by simp) (AllReadyH.cons (o := _) rfl (fun K hK => ?_) AllReadyH.nil)
    go_simp
    with_reducible refine (HC1.out _ HKw4.out hkw4).mono ?_
    rintro e w5 ⟨rfl, hb⟩
    have HBw5 : Hid (Below w3.heap.size w3 w5) := HBw4.out.trans (hb.mono HBw4.out.size)
    clear hb
    have HKw5 := Lib.hid (HK3.out.below HBw5.out hk3)
    have hkw5 : 0 < w5.heap.size := by have := HBw5.out.size; omega
    go_wp2_with fail
    refine hK.out _ _ HBw5.out (fun hHeld => ?_)
    clear hK K
    try simp only [Act.put, List.getElem_toArray, List.getElem_cons_succ, List.getElem_cons_zero, List.setIfInBounds_toArray, List.set_cons_zero, List.set_cons_succ]
    refine wpAnyH_ready (rs := [13]) (by kernel_rfl) (by simp) (AllReadyH.cons (o := _) rfl (fun K hK => ?_) AllReadyH.nil)
    go_simp
    with_reducible refine (HC2.out _ HKw5.out hkw5).mono ?_
    rintro e w6 ⟨rfl, hb⟩
    have HBw6 : Hid (Below w3.heap.size w3 w6) := HBw5.out.trans (hb.mono HBw5.out.size)
    clear hb
    have HKw6 := Lib.hid (HK3.out.below HBw6.out hk3)
    have hkw6 : 0 < w6.heap.size := by have := HBw6.out.size; omega
    go_wp2_with fail
    refine hK.out _ _ HBw6.out (fun hHeld => ?_)
    clear hK K
    try simp only [Act.put, List.getElem_toArray, List.getElem_cons_succ, List.getElem_cons_zero, List.setIfInBounds_toArray, List.set_cons_zero, List.set_cons_succ]
    refine wpAnyH_take (i := 14) (oi := _) (v := ?v14n12) rfl (by kernel_rfl) (by kernel_rfl) (by kernel_rfl) (fun _ _ _ h => h) (Or.inl ⟨by rfl, ?hy14n12⟩) (by assumption) ?rest14n12
    case hy14n12 =>
      intro w' hSw
      have hq := eqlH (climbB_H16 HX.out n0 n1 a c) w'
      go_simp
      try with_reducible rfl
    try simp only [Act.put, List.getElem_toArray, List.getElem_cons_succ, List.getElem_cons_zero, List.setIfInBounds_toArray, List.set_cons_zero, List.set_cons_succ]
    refine wpAnyH_take (i := 15) (oi := _) (v := ?v15n13) rfl (by kernel_rfl) (by kernel_rfl) (by kernel_rfl) (fun _ _ _ h => h) (Or.inl ⟨by rfl, ?hy15n13⟩) (by assumption) ?rest15n13
    case hy15n13 =>
      intro w' hSw
      go_simp
      try with_reducible rfl
    try simp only [Act.put, List.getElem_toArray, List.getElem_cons_succ, List.getElem_cons_zero, List.setIfInBounds_toArray, List.set_cons_zero, List.set_cons_succ]
    refine wpAnyH_take (i := 16) (oi := _) (v := ?v16n14) rfl (by kernel_rfl) (by kernel_rfl) (by kernel_rfl) (fun _ _ _ h => h) (Or.inl ⟨by rfl, ?hy16n14⟩) (by assumption) ?rest16n14
    case hy16n14 =>
      intro w' hSw
      go_simp
      try with_reducible rfl
    try simp only [Act.put, List.getElem_toArray, List.getElem_cons_succ, List.getElem_cons_zero, List.setIfInBounds_toArray, List.set_cons_zero, List.set_cons_succ]
    refine' wpAnyH_take (i := 17) (oi := _) (v := _) rfl (by kernel_rfl) (by kernel_rfl) (by kernel_rfl) (fun _ _ _ h => h) (yieldsIf_load_mid (by rfl) _ _ rfl _ _ rfl _ _ ?hS17n15 Tryd.underlying23 rfl HID.out) (by assumption) ?rest17n15
    case hS17n15 =>
      intro w' hSw
      exact range_belowG HRX.out hSw hsx
    try simp only [Act.put, List.getElem_toArray, List.getElem_cons_succ, List.getElem_cons_zero, List.setIfInBounds_toArray, List.set_cons_zero, List.set_cons_succ]
    refine wpAnyH_take (i := 18) (oi := _) (v := ?v18n16) rfl (by kernel_rfl) (by kernel_rfl) (by kernel_rfl) (fun _ _ _ h => h) (Or.inl ⟨by rfl, ?hy18n16⟩) (by assumption) ?rest18n16
    case hy18n16 =>
      intro w' hSw
      go_simp
      try with_reducible rfl
    try simp only [Act.put, List.getElem_toArray, List.getElem_cons_succ, List.getElem_cons_zero, List.setIfInBounds_toArray, List.set_cons_zero, List.set_cons_succ]
    refine wpAnyH_take (i := 19) (oi := _) (v := ?v19n17) rfl (by kernel_rfl) (by kernel_rfl) (by kernel_rfl) (fun _ _ _ h => h) (Or.inl ⟨by rfl, ?hy19n17⟩) (by assumption) ?rest19n17
    case hy19n17 =>
      intro w' hSw
      go_simp
      try with_reducible rfl
    try simp only [Act.put, List.getElem_toArray, List.getElem_cons_succ, List.getElem_cons_zero, List.setIfInBounds_toArray, List.set_cons_zero, List.set_cons_succ]
    refine wpAnyH_take (i := 20) (oi := _) (v := ?v20n18) rfl (by kernel_rfl) (by kernel_rfl) (by kernel_rfl) (fun _ _ _ h => h) (Or.inl ⟨by rfl, ?hy20n18⟩) (by assumption) ?rest20n18
    case hy20n18 =>
      intro w' hSw
      go_simp
      try with_reducible rfl
    try simp only [Act.put, List.getElem_toArray, List.getElem_cons_succ, List.getElem_cons_zero, List.setIfInBounds_toArray, List.set_cons_zero, List.set_cons_succ]
    refine wpAnyH_take (i := 21) (oi := _) (v := ?v21n19) rfl (by kernel_rfl) (by kernel_rfl) (by kernel_rfl) (fun _ _ _ h => h) (Or.inl ⟨by rfl, ?hy21n19⟩) (by assumption) ?rest21n19
    case hy21n19 =>
      intro w' hSw
      go_simp
      try with_reducible rfl
    try simp only [Act.put, List.getElem_toArray, List.getElem_cons_succ, List.getElem_cons_zero, List.setIfInBounds_toArray, List.set_cons_zero, List.set_cons_succ]
    refine' wpAnyH_take (i := 23) (oi := _) (v := _) rfl (by kernel_rfl) (by kernel_rfl) (by kernel_rfl) (fun _ _ _ h => h) (yieldsIf_load_mid (by rfl) _ _ rfl _ _ rfl _ _ ?hS23n20 Tryd.underlying23 rfl HID.out) (by assumption) ?rest23n20
    case hS23n20 =>
      intro w' hSw
      exact range_belowG HRX.out hSw hsx
    try simp only [Act.put, List.getElem_toArray, List.getElem_cons_succ, List.getElem_cons_zero, List.setIfInBounds_toArray, List.set_cons_zero, List.set_cons_succ]
    refine wpAnyH_ready (rs := [22]) (by kernel_rfl) (by simp) (AllReadyH.cons (o := _) rfl (fun K hK => ?_) AllReadyH.nil)
    go_simp
    with_reducible refine (HC3.out _ HKw6.out hkw6).mono ?_
    rintro e w7 ⟨rfl, hb⟩
    have HBw7 : Hid (Below w3.heap.size w3 w7) := HBw6.out.trans (hb.mono HBw6.out.size)
    clear hb
    have HKw7 := Lib.hid (HK3.out.below HBw7.out hk3)
    have hkw7 : 0 < w7.heap.size := by have := HBw7.out.size; omega
    go_wp2_with fail
    refine hK.out _ _ HBw7.out (fun hHeld => ?_)
    clear hK K
    try simp only [Act.put, List.getElem_toArray, List.getElem_cons_succ, List.getElem_cons_zero, List.setIfInBounds_toArray, List.set_cons_zero, List.set_cons_succ]
    refine wpAnyH_take (i := 24) (oi := _) (v := ?v24n21) rfl (by kernel_rfl) (by kernel_rfl) (by kernel_rfl) (fun _ _ _ h => h) (Or.inl ⟨by rfl, ?hy24n21⟩) (by assumption) ?rest24n21
    case hy24n21 =>
      intro w' hSw
      have hq := (show (Op.equalIn 10000 23 (.agg (hvA x)) (.agg (x.map (Value.int .u8)).toArray)).run Tryd.prog w' = .ok true w' from eqlH HX.out w')
      go_simp
      try with_reducible rfl
    try simp only [Act.put, List.getElem_toArray, List.getElem_cons_succ, List.getElem_cons_zero, List.setIfInBounds_toArray, List.set_cons_zero, List.set_cons_succ]
    refine wpAnyH_take (i := 25) (oi := _) (v := ?v25n22) rfl (by kernel_rfl) (by kernel_rfl) (by kernel_rfl) (fun _ _ _ h => h) (Or.inl ⟨by rfl, ?hy25n22⟩) (by assumption) ?rest25n22
    case hy25n22 =>
      intro w' hSw
      go_simp
      try with_reducible rfl
    try simp only [Act.put, List.getElem_toArray, List.getElem_cons_succ, List.getElem_cons_zero, List.setIfInBounds_toArray, List.set_cons_zero, List.set_cons_succ]
    refine wpAnyH_take (i := 26) (oi := _) (v := ?v26n23) rfl (by kernel_rfl) (by kernel_rfl) (by kernel_rfl) (fun _ _ _ h => h) (Or.inl ⟨by rfl, ?hy26n23⟩) (by assumption) ?rest26n23
    case hy26n23 =>
      intro w' hSw
      go_simp
      try with_reducible rfl
    try simp only [Act.put, List.getElem_toArray, List.getElem_cons_succ, List.getElem_cons_zero, List.setIfInBounds_toArray, List.set_cons_zero, List.set_cons_succ]
    refine wpAnyH_done (by kernel_rfl) ?_ _
    go_wp2_with fail
    go_ret
    exact ⟨rfl, HBW3.out.trans (HBw7.out.mono (by omega))⟩
end Go.Proofs.YtkeieacmboidoaaDoor
