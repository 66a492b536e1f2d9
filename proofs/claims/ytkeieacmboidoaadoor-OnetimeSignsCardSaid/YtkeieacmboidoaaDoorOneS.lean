/-
  One-time signatures: the walk of OnetimeSteps (conditions: the arguments read as halves, numbers and a list of halves; the table of constants reads as it is laid).
-/
import Derived.Test.YtkeieacmboidoaaDoorOneO
namespace Go.Proofs.YtkeieacmboidoaaDoor
open Go.RowKit Go.Proofs.YtkeieacmboidoaaDoor.One

theorem HvsIn.more {w : World} {B B' : Nat} {da : Option Addr} {n cap : Nat} {l : List (List Int)} (h : HvsIn w B da n cap l) (hB : B ≤ B') : HvsIn w B' da n cap l :=
  ⟨h.len, h.ok, fun hn => by
    obtain ⟨b, off, e, hlt, hc, hr⟩ := h.cells hn
    exact ⟨b, off, e, by omega, hc, hr⟩⟩
theorem eqHE (X Y : List Int) (hX : X.length = 16) (hY : Y.length = 16) (w : World) :
    (Op.equalIn 10000 23 (.agg (hvA X)) (.agg (hvA Y))).run Tryd.prog w = .ok (decide (X = Y)) w := by
  have hc : Tryd.prog.cellsOf 5 = 1 := by kernel_rfl
  obtain ⟨i, hi⟩ : ∃ i, Tryd.prog.info? 5 = some i := Option.isSome_iff_exists.1 (by kernel_rfl)
  have h := run_equalIn_array (P := Tryd.prog) w 9999 (X.map (Value.int .u8)).toArray (Y.map (Value.int .u8)).toArray Tryd.underlying23 hi
  rw [hc] at h
  have e := eq_items 9998 X Y (List.range 16) w (fun j hj => by rw [hX, hY]; simpa using hj)
  have r := all_range_eq X Y (by omega)
  rw [hX] at r
  rw [r] at e
  rw [e] at h
  exact h
theorem eqlH {X : List Int} (hX : H16 X) (w : World) : (Op.equalIn 10000 23 (.agg (hvA X)) (.agg (hvA X))).run Tryd.prog w = .ok true w := by
  have h := eqHE X X hX.1 hX.1 w
  rw [decide_eq_true rfl] at h
  exact h
theorem info_h2 {h : List Int} (hh : H16 h) : (Tryd.prog.info? 23).map (·.size) = some (h.map (Value.int .u8)).length := by
  rw [List.length_map, hh.1]; exact infoH1
set_option maxRecDepth 100000 in
set_option maxHeartbeats 4000000 in
theorem onetimeSteps_any (x : List Int) (n0 n1 n2 n3 : Int) (sp : Option Addr) (n cap : Nat) (l : List (List Int)) (w : World) (hx : H16 x) (hl : HvsIn w w.heap.size sp n cap l) (hk : KayIn w) (hk0 : 0 < w.heap.size) :
    Calls Tryd.prog 3 #[.agg (hvA x), .agg #[.int .i64 n0, .int .i64 n1, .int .i64 n2, .int .i64 n3], .slice sp n cap] w fun e w' => e = .returned (.bool true) ∧ Below w.heap.size w w' := by
  have HX := Lib.hid hx; have HID := Lib.hid (info_h2 hx)
  have HA1 := Lib.hid ((heap_alloc_old (w.alloc (.cells (hvA x) 23)) (.cells #[.int .i64 n0, .int .i64 n1, .int .i64 n2, .int .i64 n3] 24) (show w.heap.size < _ by simp)).trans (heap_alloc_new w (.cells (hvA x) 23)))
  have HA2 := Lib.hid (heap_alloc_new (w.alloc (.cells (hvA x) 23)) (.cells #[.int .i64 n0, .int .i64 n1, .int .i64 n2, .int .i64 n3] 24))
  have HAB := Lib.hid (((Below.refl w.heap.size w).alloc (Nat.le_refl _) (.cells (hvA x) 23)).alloc (by simp) (.cells #[.int .i64 n0, .int .i64 n1, .int .i64 n2, .int .i64 n3] 24))
  have HAS := Lib.hid (show ((w.alloc (.cells (hvA x) 23)).alloc (.cells #[.int .i64 n0, .int .i64 n1, .int .i64 n2, .int .i64 n3] 24)).heap.size = w.heap.size + 2 by simp)
  by_cases hbig : 100 < n
  · have hd : decide ((n : Int) > 100) = true := by simp; omega
    clear hl hk
    go_enter Tryd.func3, Tryd.ntmps3
    go_wp2
    go_ret
    exact ⟨rfl, HAB.out⟩
  · have hd : decide ((n : Int) > 100) = false := by simp; omega
    have HKI := Lib.hid hk; have HLW := Lib.hid hl
    clear hl hk hx
    go_enter Tryd.func3, Tryd.ntmps3
    go_wp2_with fail
    generalize hw0 : World.alloc (World.alloc w _) _ = w0
    have HG1 : Hid (w0.heap[w.heap.size]? = some (.cells (hvA x) 23 (0, 0))) := by rw [← hw0]; exact HA1.out
    have HG2 : Hid (w0.heap[w.heap.size + 1]? = some (.cells #[.int .i64 n0, .int .i64 n1, .int .i64 n2, .int .i64 n3] 24 (0, 0))) := by rw [← hw0]; have h := HA2.out; rw [World.size_alloc] at h; exact h
    have HB0 : Hid (Below w.heap.size w w0) := by rw [← hw0]; exact HAB.out
    have hs1 : w.heap.size + 1 < w0.heap.size := by have := HAS.out; rw [hw0] at this; omega
    clear hw0 HA1 HA2 HAB HAS
    have hs0 : w.heap.size < w0.heap.size := by omega
    have HR0 : Hid (w0.rangeAt w.heap.size 0 (x.map (Value.int .u8))) := by
      intro j v hv; rw [Nat.zero_add]; exact heap_cellO HG1.out hv
    have HN0 : Hid (w0.cell? ⟨w.heap.size + 1, 0, none⟩ = some (.int .i64 n0)) := by show _ = _; rw [cell_of_row w0 _ 0 _ _ _ HG2.out]; rfl
    have HN1 : Hid (w0.cell? ⟨w.heap.size + 1, 1, none⟩ = some (.int .i64 n1)) := by show _ = _; rw [cell_of_row w0 _ 1 _ _ _ HG2.out]; rfl
    have HN2 : Hid (w0.cell? ⟨w.heap.size + 1, 2, none⟩ = some (.int .i64 n2)) := by show _ = _; rw [cell_of_row w0 _ 2 _ _ _ HG2.out]; rfl
    have HN3 : Hid (w0.cell? ⟨w.heap.size + 1, 3, none⟩ = some (.int .i64 n3)) := by show _ = _; rw [cell_of_row w0 _ 3 _ _ _ HG2.out]; rfl
    have HK0 : Hid (KayIn w0) := HKI.out.below HB0.out hk0
    have hk0' : 0 < w0.heap.size := by omega
    have HLV : Hid (HvsIn w0 w.heap.size sp n cap l) := HLW.out.below HB0.out (Nat.le_refl _)
    have HCA := Lib.hid (fun w' (hk : KayIn w') (hk0 : 0 < w'.heap.size) => (show Calls Tryd.prog 8 #[.agg (x.map (Value.int .u8)).toArray, .int .i64 n0, .int .i64 n1] w' fun e w'' => e = .returned (.agg (hvA (secB x n0 n1))) ∧ Below w'.heap.size w' w'' from secret_any x n0 n1 w' HX.out hk hk0))
    have HCB := Lib.hid (fun w' => (show Calls Tryd.prog 9 #[.agg (x.map (Value.int .u8)).toArray, .int .i64 n0, .int .i64 n1] w' fun e w'' => e = .returned (.agg (hvA (secB x n0 n1))) ∧ Below w'.heap.size w' w'' from rsecret_any x n0 n1 w' HX.out))
    have HCC := Lib.hid (fun w' (hk : KayIn w') (hk0 : 0 < w'.heap.size) => (show Calls Tryd.prog 10 #[.agg (x.map (Value.int .u8)).toArray, .int .i64 n0, .int .i64 n1, .int .i64 n2, .int .i64 n3] w' fun e w'' => e = .returned (.agg (hvA (climbB x n0 n1 n2 n3))) ∧ Below w'.heap.size w' w'' from climb_any x n0 n1 n2 n3 w' HX.out hk hk0))
    have HCD := Lib.hid (fun w' => (show Calls Tryd.prog 11 #[.agg (x.map (Value.int .u8)).toArray, .int .i64 n0, .int .i64 n1, .int .i64 n2, .int .i64 n3] w' fun e w'' => e = .returned (.agg (hvA (climbB x n0 n1 n2 n3))) ∧ Below w'.heap.size w' w'' from rclimb_any x n0 n1 n2 n3 w' HX.out))
    clear HG1 HG2 HKI HLW
    clear hk0; have hk0 := hk0'; clear hk0'
    refine wp_region_held_drew (S := fun w' => Below w0.heap.size w0 w') (by kernel_rfl) (Below.refl _ _).drew (fun hHeld => ?_)
    refine wpAnyH_ready (rs := [0]) (by kernel_rfl) (by simp) (AllReadyH.cons (o := _) rfl (fun K hK => ?_) AllReadyH.nil)
    go_simp
    with_reducible refine (awake8_any _).mono ?_
    rintro e w1 ⟨rfl, hb⟩
    have HBw1 : Hid (Below w0.heap.size w0 w1) := hHeld.trans (hb.mono hHeld.size)
    clear hb
    have HKw1 := Lib.hid (HK0.out.below HBw1.out hk0)
    have hkw1 : 0 < w1.heap.size := by have := HBw1.out.size; omega
    go_wp2_with fail
    refine hK.out _ _ HBw1.out (fun hHeld => ?_)
    clear hK K
    try simp only [Act.put, List.getElem_toArray, List.getElem_cons_succ, List.getElem_cons_zero, List.setIfInBounds_toArray, List.set_cons_zero, List.set_cons_succ]
    refine wpAnyH_take (i := 1) (oi := _) (v := ?v1n1) rfl (by kernel_rfl) (by kernel_rfl) (by kernel_rfl) (fun _ _ _ h => h) (Or.inl ⟨by rfl, ?hy1n1⟩) (by assumption) ?rest1n1
    case hy1n1 =>
      intro w' hSw
      go_simp
      try with_reducible rfl
    try simp only [Act.put, List.getElem_toArray, List.getElem_cons_succ, List.getElem_cons_zero, List.setIfInBounds_toArray, List.set_cons_zero, List.set_cons_succ]
    refine' wpAnyH_take (i := 2) (oi := _) (v := _) rfl (by kernel_rfl) (by kernel_rfl) (by kernel_rfl) (fun _ _ _ h => h) (yieldsIf_load_mid (by rfl) _ _ rfl _ _ rfl _ _ ?hS2n2 Tryd.underlying23 rfl HID.out) (by assumption) ?rest2n2
    case hS2n2 =>
      intro w' hSw
      exact range_belowG HR0.out hSw hs0
    try simp only [Act.put, List.getElem_toArray, List.getElem_cons_succ, List.getElem_cons_zero, List.setIfInBounds_toArray, List.set_cons_zero, List.set_cons_succ]
    refine wpAnyH_take (i := 3) (oi := _) (v := ?v3n3) rfl (by kernel_rfl) (by kernel_rfl) (by kernel_rfl) (fun _ _ _ h => h) (Or.inl ⟨by rfl, ?hy3n3⟩) (by assumption) ?rest3n3
    case hy3n3 =>
      intro w' hSw
      go_simp
      try with_reducible rfl
    try simp only [Act.put, List.getElem_toArray, List.getElem_cons_succ, List.getElem_cons_zero, List.setIfInBounds_toArray, List.set_cons_zero, List.set_cons_succ]
    refine wpAnyH_take (i := 4) (oi := _) (v := ?v4n4) rfl (by kernel_rfl) (by kernel_rfl) (by kernel_rfl) (fun _ _ _ h => h) (Or.inl ⟨by rfl, ?hy4n4⟩) (by assumption) ?rest4n4
    case hy4n4 =>
      intro w' hSw
      have hq : w'.cell? ⟨w.heap.size + 1, 0, none⟩ = some (.int .i64 n0) := (hSw.cell (p := ⟨w.heap.size + 1, 0, none⟩) (by show w.heap.size + 1 < _; omega)).trans HN0.out
      go_simp
      try with_reducible rfl
    try simp only [Act.put, List.getElem_toArray, List.getElem_cons_succ, List.getElem_cons_zero, List.setIfInBounds_toArray, List.set_cons_zero, List.set_cons_succ]
    refine wpAnyH_take (i := 5) (oi := _) (v := ?v5n5) rfl (by kernel_rfl) (by kernel_rfl) (by kernel_rfl) (fun _ _ _ h => h) (Or.inl ⟨by rfl, ?hy5n5⟩) (by assumption) ?rest5n5
    case hy5n5 =>
      intro w' hSw
      go_simp
      try with_reducible rfl
    try simp only [Act.put, List.getElem_toArray, List.getElem_cons_succ, List.getElem_cons_zero, List.setIfInBounds_toArray, List.set_cons_zero, List.set_cons_succ]
    refine wpAnyH_take (i := 6) (oi := _) (v := ?v6n6) rfl (by kernel_rfl) (by kernel_rfl) (by kernel_rfl) (fun _ _ _ h => h) (Or.inl ⟨by rfl, ?hy6n6⟩) (by assumption) ?rest6n6
    case hy6n6 =>
      intro w' hSw
      have hq : w'.cell? ⟨w.heap.size + 1, 1, none⟩ = some (.int .i64 n1) := (hSw.cell (p := ⟨w.heap.size + 1, 1, none⟩) (by show w.heap.size + 1 < _; omega)).trans HN1.out
      go_simp
      try with_reducible rfl
    try simp only [Act.put, List.getElem_toArray, List.getElem_cons_succ, List.getElem_cons_zero, List.setIfInBounds_toArray, List.set_cons_zero, List.set_cons_succ]
    refine' wpAnyH_take (i := 8) (oi := _) (v := _) rfl (by kernel_rfl) (by kernel_rfl) (by kernel_rfl) (fun _ _ _ h => h) (yieldsIf_load_mid (by rfl) _ _ rfl _ _ rfl _ _ ?hS8n7 Tryd.underlying23 rfl HID.out) (by assumption) ?rest8n7
    case hS8n7 =>
      intro w' hSw
      exact range_belowG HR0.out hSw hs0
    try simp only [Act.put, List.getElem_toArray, List.getElem_cons_succ, List.getElem_cons_zero, List.setIfInBounds_toArray, List.set_cons_zero, List.set_cons_succ]
    refine wpAnyH_take (i := 9) (oi := _) (v := ?v9n8) rfl (by kernel_rfl) (by kernel_rfl) (by kernel_rfl) (fun _ _ _ h => h) (Or.inl ⟨by rfl, ?hy9n8⟩) (by assumption) ?rest9n8
    case hy9n8 =>
      intro w' hSw
      go_simp
      try with_reducible rfl
    try simp only [Act.put, List.getElem_toArray, List.getElem_cons_succ, List.getElem_cons_zero, List.setIfInBounds_toArray, List.set_cons_zero, List.set_cons_succ]
    refine wpAnyH_take (i := 10) (oi := _) (v := ?v10n9) rfl (by kernel_rfl) (by kernel_rfl) (by kernel_rfl) (fun _ _ _ h => h) (Or.inl ⟨by rfl, ?hy10n9⟩) (by assumption) ?rest10n9
    case hy10n9 =>
      intro w' hSw
      have hq : w'.cell? ⟨w.heap.size + 1, 0, none⟩ = some (.int .i64 n0) := (hSw.cell (p := ⟨w.heap.size + 1, 0, none⟩) (by show w.heap.size + 1 < _; omega)).trans HN0.out
      go_simp
      try with_reducible rfl
    try simp only [Act.put, List.getElem_toArray, List.getElem_cons_succ, List.getElem_cons_zero, List.setIfInBounds_toArray, List.set_cons_zero, List.set_cons_succ]
    refine wpAnyH_take (i := 11) (oi := _) (v := ?v11n10) rfl (by kernel_rfl) (by kernel_rfl) (by kernel_rfl) (fun _ _ _ h => h) (Or.inl ⟨by rfl, ?hy11n10⟩) (by assumption) ?rest11n10
    case hy11n10 =>
      intro w' hSw
      go_simp
      try with_reducible rfl
    try simp only [Act.put, List.getElem_toArray, List.getElem_cons_succ, List.getElem_cons_zero, List.setIfInBounds_toArray, List.set_cons_zero, List.set_cons_succ]
    refine wpAnyH_take (i := 12) (oi := _) (v := ?v12n11) rfl (by kernel_rfl) (by kernel_rfl) (by kernel_rfl) (fun _ _ _ h => h) (Or.inl ⟨by rfl, ?hy12n11⟩) (by assumption) ?rest12n11
    case hy12n11 =>
      intro w' hSw
      have hq : w'.cell? ⟨w.heap.size + 1, 1, none⟩ = some (.int .i64 n1) := (hSw.cell (p := ⟨w.heap.size + 1, 1, none⟩) (by show w.heap.size + 1 < _; omega)).trans HN1.out
      go_simp
      try with_reducible rfl
    try simp only [Act.put, List.getElem_toArray, List.getElem_cons_succ, List.getElem_cons_zero, List.setIfInBounds_toArray, List.set_cons_zero, List.set_cons_succ]
    refine wpAnyH_ready (rs := [7]) (by kernel_rfl) (by simp) (AllReadyH.cons (o := _) rfl (fun K hK => ?_) AllReadyH.nil)
    go_simp
    with_reducible refine (HCA.out _ HKw1.out hkw1).mono ?_
    rintro e w2 ⟨rfl, hb⟩
    have HBw2 : Hid (Below w0.heap.size w0 w2) := HBw1.out.trans (hb.mono HBw1.out.size)
    clear hb
    have HKw2 := Lib.hid (HK0.out.below HBw2.out hk0)
    have hkw2 : 0 < w2.heap.size := by have := HBw2.out.size; omega
    go_wp2_with fail
    refine hK.out _ _ HBw2.out (fun hHeld => ?_)
    clear hK K
    try simp only [Act.put, List.getElem_toArray, List.getElem_cons_succ, List.getElem_cons_zero, List.setIfInBounds_toArray, List.set_cons_zero, List.set_cons_succ]
    refine wpAnyH_ready (rs := [13]) (by kernel_rfl) (by simp) (AllReadyH.cons (o := _) rfl (fun K hK => ?_) AllReadyH.nil)
    go_simp
    with_reducible refine (HCB.out _).mono ?_
    rintro e w3 ⟨rfl, hb⟩
    have HBw3 : Hid (Below w0.heap.size w0 w3) := HBw2.out.trans (hb.mono HBw2.out.size)
    clear hb
    have HKw3 := Lib.hid (HK0.out.below HBw3.out hk0)
    have hkw3 : 0 < w3.heap.size := by have := HBw3.out.size; omega
    go_wp2_with fail
    refine hK.out _ _ HBw3.out (fun hHeld => ?_)
    clear hK K
    try simp only [Act.put, List.getElem_toArray, List.getElem_cons_succ, List.getElem_cons_zero, List.setIfInBounds_toArray, List.set_cons_zero, List.set_cons_succ]
    refine wpAnyH_take (i := 14) (oi := _) (v := ?v14n12) rfl (by kernel_rfl) (by kernel_rfl) (by kernel_rfl) (fun _ _ _ h => h) (Or.inl ⟨by rfl, ?hy14n12⟩) (by assumption) ?rest14n12
    case hy14n12 =>
      intro w' hSw
      have hq := eqlH (secB_H16 x n0 n1) w'
      go_simp
      try with_reducible rfl
    try simp only [Act.put, List.getElem_toArray, List.getElem_cons_succ, List.getElem_cons_zero, List.setIfInBounds_toArray, List.set_cons_zero, List.set_cons_succ]
    refine wpAnyH_take (i := 15) (oi := _) (v := ?v15n13) rfl (by kernel_rfl) (by kernel_rfl) (by kernel_rfl) (fun _ _ _ h => h) (Or.inl ⟨by rfl, ?hy15n13⟩) (by assumption) ?rest15n13
    case hy15n13 =>
      intro w' hSw
      go_simp
      try with_reducible rfl
    try simp only [Act.put, List.getElem_toArray, List.getElem_cons_succ, List.getElem_cons_zero, List.setIfInBounds_toArray, List.set_cons_zero, List.set_cons_succ]
    refine wpAnyH_take (i := 16) (oi := _) (v := ?v16n14) rfl (by kernel_rfl) (by kernel_rfl) (by kernel_rfl) (fun _ _ _ h => h) (Or.inl ⟨by rfl, ?hy16n14⟩) (by assumption) ?rest16n14
    case hy16n14 =>
      intro w' hSw
      go_simp
      try with_reducible rfl
    try simp only [Act.put, List.getElem_toArray, List.getElem_cons_succ, List.getElem_cons_zero, List.setIfInBounds_toArray, List.set_cons_zero, List.set_cons_succ]
    refine' wpAnyH_take (i := 17) (oi := _) (v := _) rfl (by kernel_rfl) (by kernel_rfl) (by kernel_rfl) (fun _ _ _ h => h) (yieldsIf_load_mid (by rfl) _ _ rfl _ _ rfl _ _ ?hS17n15 Tryd.underlying23 rfl HID.out) (by assumption) ?rest17n15
    case hS17n15 =>
      intro w' hSw
      exact range_belowG HR0.out hSw hs0
    try simp only [Act.put, List.getElem_toArray, List.getElem_cons_succ, List.getElem_cons_zero, List.setIfInBounds_toArray, List.set_cons_zero, List.set_cons_succ]
    refine wpAnyH_take (i := 18) (oi := _) (v := ?v18n16) rfl (by kernel_rfl) (by kernel_rfl) (by kernel_rfl) (fun _ _ _ h => h) (Or.inl ⟨by rfl, ?hy18n16⟩) (by assumption) ?rest18n16
    case hy18n16 =>
      intro w' hSw
      go_simp
      try with_reducible rfl
    try simp only [Act.put, List.getElem_toArray, List.getElem_cons_succ, List.getElem_cons_zero, List.setIfInBounds_toArray, List.set_cons_zero, List.set_cons_succ]
    refine wpAnyH_take (i := 19) (oi := _) (v := ?v19n17) rfl (by kernel_rfl) (by kernel_rfl) (by kernel_rfl) (fun _ _ _ h => h) (Or.inl ⟨by rfl, ?hy19n17⟩) (by assumption) ?rest19n17
    case hy19n17 =>
      intro w' hSw
      have hq : w'.cell? ⟨w.heap.size + 1, 0, none⟩ = some (.int .i64 n0) := (hSw.cell (p := ⟨w.heap.size + 1, 0, none⟩) (by show w.heap.size + 1 < _; omega)).trans HN0.out
      go_simp
      try with_reducible rfl
    try simp only [Act.put, List.getElem_toArray, List.getElem_cons_succ, List.getElem_cons_zero, List.setIfInBounds_toArray, List.set_cons_zero, List.set_cons_succ]
    refine wpAnyH_take (i := 20) (oi := _) (v := ?v20n18) rfl (by kernel_rfl) (by kernel_rfl) (by kernel_rfl) (fun _ _ _ h => h) (Or.inl ⟨by rfl, ?hy20n18⟩) (by assumption) ?rest20n18
    case hy20n18 =>
      intro w' hSw
      go_simp
      try with_reducible rfl
    try simp only [Act.put, List.getElem_toArray, List.getElem_cons_succ, List.getElem_cons_zero, List.setIfInBounds_toArray, List.set_cons_zero, List.set_cons_succ]
    refine wpAnyH_take (i := 21) (oi := _) (v := ?v21n19) rfl (by kernel_rfl) (by kernel_rfl) (by kernel_rfl) (fun _ _ _ h => h) (Or.inl ⟨by rfl, ?hy21n19⟩) (by assumption) ?rest21n19
    case hy21n19 =>
      intro w' hSw
      have hq : w'.cell? ⟨w.heap.size + 1, 1, none⟩ = some (.int .i64 n1) := (hSw.cell (p := ⟨w.heap.size + 1, 1, none⟩) (by show w.heap.size + 1 < _; omega)).trans HN1.out
      go_simp
      try with_reducible rfl
    try simp only [Act.put, List.getElem_toArray, List.getElem_cons_succ, List.getElem_cons_zero, List.setIfInBounds_toArray, List.set_cons_zero, List.set_cons_succ]
    refine wpAnyH_take (i := 22) (oi := _) (v := ?v22n20) rfl (by kernel_rfl) (by kernel_rfl) (by kernel_rfl) (fun _ _ _ h => h) (Or.inl ⟨by rfl, ?hy22n20⟩) (by assumption) ?rest22n20
    case hy22n20 =>
      intro w' hSw
      go_simp
      try with_reducible rfl
    try simp only [Act.put, List.getElem_toArray, List.getElem_cons_succ, List.getElem_cons_zero, List.setIfInBounds_toArray, List.set_cons_zero, List.set_cons_succ]
    refine wpAnyH_take (i := 23) (oi := _) (v := ?v23n21) rfl (by kernel_rfl) (by kernel_rfl) (by kernel_rfl) (fun _ _ _ h => h) (Or.inl ⟨by rfl, ?hy23n21⟩) (by assumption) ?rest23n21
    case hy23n21 =>
      intro w' hSw
      have hq : w'.cell? ⟨w.heap.size + 1, 2, none⟩ = some (.int .i64 n2) := (hSw.cell (p := ⟨w.heap.size + 1, 2, none⟩) (by show w.heap.size + 1 < _; omega)).trans HN2.out
      go_simp
      try with_reducible rfl
    try simp only [Act.put, List.getElem_toArray, List.getElem_cons_succ, List.getElem_cons_zero, List.setIfInBounds_toArray, List.set_cons_zero, List.set_cons_succ]
    refine wpAnyH_take (i := 24) (oi := _) (v := ?v24n22) rfl (by kernel_rfl) (by kernel_rfl) (by kernel_rfl) (fun _ _ _ h => h) (Or.inl ⟨by rfl, ?hy24n22⟩) (by assumption) ?rest24n22
    case hy24n22 =>
      intro w' hSw
      go_simp
      try with_reducible rfl
    try simp only [Act.put, List.getElem_toArray, List.getElem_cons_succ, List.getElem_cons_zero, List.setIfInBounds_toArray, List.set_cons_zero, List.set_cons_succ]
    refine wpAnyH_take (i := 25) (oi := _) (v := ?v25n23) rfl (by kernel_rfl) (by kernel_rfl) (by kernel_rfl) (fun _ _ _ h => h) (Or.inl ⟨by rfl, ?hy25n23⟩) (by assumption) ?rest25n23
    case hy25n23 =>
      intro w' hSw
      have hq : w'.cell? ⟨w.heap.size + 1, 3, none⟩ = some (.int .i64 n3) := (hSw.cell (p := ⟨w.heap.size + 1, 3, none⟩) (by show w.heap.size + 1 < _; omega)).trans HN3.out
      go_simp
      try with_reducible rfl
    try simp only [Act.put, List.getElem_toArray, List.getElem_cons_succ, List.getElem_cons_zero, List.setIfInBounds_toArray, List.set_cons_zero, List.set_cons_succ]
    refine' wpAnyH_take (i := 27) (oi := _) (v := _) rfl (by kernel_rfl) (by kernel_rfl) (by kernel_rfl) (fun _ _ _ h => h) (yieldsIf_load_mid (by rfl) _ _ rfl _ _ rfl _ _ ?hS27n24 Tryd.underlying23 rfl HID.out) (by assumption) ?rest27n24
    case hS27n24 =>
      intro w' hSw
      exact range_belowG HR0.out hSw hs0
    try simp only [Act.put, List.getElem_toArray, List.getElem_cons_succ, List.getElem_cons_zero, List.setIfInBounds_toArray, List.set_cons_zero, List.set_cons_succ]
    refine wpAnyH_take (i := 28) (oi := _) (v := ?v28n25) rfl (by kernel_rfl) (by kernel_rfl) (by kernel_rfl) (fun _ _ _ h => h) (Or.inl ⟨by rfl, ?hy28n25⟩) (by assumption) ?rest28n25
    case hy28n25 =>
      intro w' hSw
      go_simp
      try with_reducible rfl
    try simp only [Act.put, List.getElem_toArray, List.getElem_cons_succ, List.getElem_cons_zero, List.setIfInBounds_toArray, List.set_cons_zero, List.set_cons_succ]
    refine wpAnyH_take (i := 29) (oi := _) (v := ?v29n26) rfl (by kernel_rfl) (by kernel_rfl) (by kernel_rfl) (fun _ _ _ h => h) (Or.inl ⟨by rfl, ?hy29n26⟩) (by assumption) ?rest29n26
    case hy29n26 =>
      intro w' hSw
      have hq : w'.cell? ⟨w.heap.size + 1, 0, none⟩ = some (.int .i64 n0) := (hSw.cell (p := ⟨w.heap.size + 1, 0, none⟩) (by show w.heap.size + 1 < _; omega)).trans HN0.out
      go_simp
      try with_reducible rfl
    try simp only [Act.put, List.getElem_toArray, List.getElem_cons_succ, List.getElem_cons_zero, List.setIfInBounds_toArray, List.set_cons_zero, List.set_cons_succ]
    refine wpAnyH_take (i := 30) (oi := _) (v := ?v30n27) rfl (by kernel_rfl) (by kernel_rfl) (by kernel_rfl) (fun _ _ _ h => h) (Or.inl ⟨by rfl, ?hy30n27⟩) (by assumption) ?rest30n27
    case hy30n27 =>
      intro w' hSw
      go_simp
      try with_reducible rfl
    try simp only [Act.put, List.getElem_toArray, List.getElem_cons_succ, List.getElem_cons_zero, List.setIfInBounds_toArray, List.set_cons_zero, List.set_cons_succ]
    refine wpAnyH_take (i := 31) (oi := _) (v := ?v31n28) rfl (by kernel_rfl) (by kernel_rfl) (by kernel_rfl) (fun _ _ _ h => h) (Or.inl ⟨by rfl, ?hy31n28⟩) (by assumption) ?rest31n28
    case hy31n28 =>
      intro w' hSw
      have hq : w'.cell? ⟨w.heap.size + 1, 1, none⟩ = some (.int .i64 n1) := (hSw.cell (p := ⟨w.heap.size + 1, 1, none⟩) (by show w.heap.size + 1 < _; omega)).trans HN1.out
      go_simp
      try with_reducible rfl
    try simp only [Act.put, List.getElem_toArray, List.getElem_cons_succ, List.getElem_cons_zero, List.setIfInBounds_toArray, List.set_cons_zero, List.set_cons_succ]
    refine wpAnyH_take (i := 32) (oi := _) (v := ?v32n29) rfl (by kernel_rfl) (by kernel_rfl) (by kernel_rfl) (fun _ _ _ h => h) (Or.inl ⟨by rfl, ?hy32n29⟩) (by assumption) ?rest32n29
    case hy32n29 =>
      intro w' hSw
      go_simp
      try with_reducible rfl
    try simp only [Act.put, List.getElem_toArray, List.getElem_cons_succ, List.getElem_cons_zero, List.setIfInBounds_toArray, List.set_cons_zero, List.set_cons_succ]
    refine wpAnyH_take (i := 33) (oi := _) (v := ?v33n30) rfl (by kernel_rfl) (by kernel_rfl) (by kernel_rfl) (fun _ _ _ h => h) (Or.inl ⟨by rfl, ?hy33n30⟩) (by assumption) ?rest33n30
    case hy33n30 =>
      intro w' hSw
      have hq : w'.cell? ⟨w.heap.size + 1, 2, none⟩ = some (.int .i64 n2) := (hSw.cell (p := ⟨w.heap.size + 1, 2, none⟩) (by show w.heap.size + 1 < _; omega)).trans HN2.out
      go_simp
      try with_reducible rfl
    try simp only [Act.put, List.getElem_toArray, List.getElem_cons_succ, List.getElem_cons_zero, List.setIfInBounds_toArray, List.set_cons_zero, List.set_cons_succ]
    refine wpAnyH_take (i := 34) (oi := _) (v := ?v34n31) rfl (by kernel_rfl) (by kernel_rfl) (by kernel_rfl) (fun _ _ _ h => h) (Or.inl ⟨by rfl, ?hy34n31⟩) (by assumption) ?rest34n31
    case hy34n31 =>
      intro w' hSw
      go_simp
      try with_reducible rfl
    try simp only [Act.put, List.getElem_toArray, List.getElem_cons_succ, List.getElem_cons_zero, List.setIfInBounds_toArray, List.set_cons_zero, List.set_cons_succ]
    refine wpAnyH_take (i := 35) (oi := _) (v := ?v35n32) rfl (by kernel_rfl) (by kernel_rfl) (by kernel_rfl) (fun _ _ _ h => h) (Or.inl ⟨by rfl, ?hy35n32⟩) (by assumption) ?rest35n32
    case hy35n32 =>
      intro w' hSw
      have hq : w'.cell? ⟨w.heap.size + 1, 3, none⟩ = some (.int .i64 n3) := (hSw.cell (p := ⟨w.heap.size + 1, 3, none⟩) (by show w.heap.size + 1 < _; omega)).trans HN3.out
      go_simp
      try with_reducible rfl
    try simp only [Act.put, List.getElem_toArray, List.getElem_cons_succ, List.getElem_cons_zero, List.setIfInBounds_toArray, List.set_cons_zero, List.set_cons_succ]
    refine wpAnyH_ready (rs := [26]) (by kernel_rfl) (by simp) (AllReadyH.cons (o := _) rfl (fun K hK => ?_) AllReadyH.nil)
    go_simp
    with_reducible refine (HCC.out _ HKw3.out hkw3).mono ?_
    rintro e w4 ⟨rfl, hb⟩
    have HBw4 : Hid (Below w0.heap.size w0 w4) := HBw3.out.trans (hb.mono HBw3.out.size)
    clear hb
    have HKw4 := Lib.hid (HK0.out.below HBw4.out hk0)
    have hkw4 : 0 < w4.heap.size := by have := HBw4.out.size; omega
    go_wp2_with fail
    refine hK.out _ _ HBw4.out (fun hHeld => ?_)
    clear hK K
    try simp only [Act.put, List.getElem_toArray, List.getElem_cons_succ, List.getElem_cons_zero, List.setIfInBounds_toArray, List.set_cons_zero, List.set_cons_succ]
    refine wpAnyH_ready (rs := [36]) (by kernel_rfl) (by simp) (AllReadyH.cons (o := _) rfl (fun K hK => ?_) AllReadyH.nil)
    go_simp
    with_reducible refine (HCD.out _).mono ?_
    rintro e w5 ⟨rfl, hb⟩
    have HBw5 : Hid (Below w0.heap.size w0 w5) := HBw4.out.trans (hb.mono HBw4.out.size)
    clear hb
    have HKw5 := Lib.hid (HK0.out.below HBw5.out hk0)
    have hkw5 : 0 < w5.heap.size := by have := HBw5.out.size; omega
    go_wp2_with fail
    refine hK.out _ _ HBw5.out (fun hHeld => ?_)
    clear hK K
    try simp only [Act.put, List.getElem_toArray, List.getElem_cons_succ, List.getElem_cons_zero, List.setIfInBounds_toArray, List.set_cons_zero, List.set_cons_succ]
    refine wpAnyH_take (i := 37) (oi := _) (v := ?v37n33) rfl (by kernel_rfl) (by kernel_rfl) (by kernel_rfl) (fun _ _ _ h => h) (Or.inl ⟨by rfl, ?hy37n33⟩) (by assumption) ?rest37n33
    case hy37n33 =>
      intro w' hSw
      have hq := eqlH (climbB_H16 HX.out n0 n1 n2 n3) w'
      go_simp
      try with_reducible rfl
    try simp only [Act.put, List.getElem_toArray, List.getElem_cons_succ, List.getElem_cons_zero, List.setIfInBounds_toArray, List.set_cons_zero, List.set_cons_succ]
    refine wpAnyH_take (i := 38) (oi := _) (v := ?v38n34) rfl (by kernel_rfl) (by kernel_rfl) (by kernel_rfl) (fun _ _ _ h => h) (Or.inl ⟨by rfl, ?hy38n34⟩) (by assumption) ?rest38n34
    case hy38n34 =>
      intro w' hSw
      go_simp
      try with_reducible rfl
    try simp only [Act.put, List.getElem_toArray, List.getElem_cons_succ, List.getElem_cons_zero, List.setIfInBounds_toArray, List.set_cons_zero, List.set_cons_succ]
    refine wpAnyH_take (i := 39) (oi := _) (v := ?v39n35) rfl (by kernel_rfl) (by kernel_rfl) (by kernel_rfl) (fun _ _ _ h => h) (Or.inl ⟨by rfl, ?hy39n35⟩) (by assumption) ?rest39n35
    case hy39n35 =>
      intro w' hSw
      go_simp
      try with_reducible rfl
    try simp only [Act.put, List.getElem_toArray, List.getElem_cons_succ, List.getElem_cons_zero, List.setIfInBounds_toArray, List.set_cons_zero, List.set_cons_succ]
    refine wpAnyH_take (i := 40) (oi := _) (v := ?v40n36) rfl (by kernel_rfl) (by kernel_rfl) (by kernel_rfl) (fun _ _ _ h => h) (Or.inl ⟨by rfl, ?hy40n36⟩) (by assumption) ?rest40n36
    case hy40n36 =>
      intro w' hSw
      go_simp
      try with_reducible rfl
    try simp only [Act.put, List.getElem_toArray, List.getElem_cons_succ, List.getElem_cons_zero, List.setIfInBounds_toArray, List.set_cons_zero, List.set_cons_succ]
    refine wpAnyH_take (i := 41) (oi := _) (v := ?v41n37) rfl (by kernel_rfl) (by kernel_rfl) (by kernel_rfl) (fun _ _ _ h => h) (Or.inl ⟨by rfl, ?hy41n37⟩) (by assumption) ?rest41n37
    case hy41n37 =>
      intro w' hSw
      have hq : w'.cell? ⟨w.heap.size + 1, 0, none⟩ = some (.int .i64 n0) := (hSw.cell (p := ⟨w.heap.size + 1, 0, none⟩) (by show w.heap.size + 1 < _; omega)).trans HN0.out
      go_simp
      try with_reducible rfl
    try simp only [Act.put, List.getElem_toArray, List.getElem_cons_succ, List.getElem_cons_zero, List.setIfInBounds_toArray, List.set_cons_zero, List.set_cons_succ]
    refine wpAnyH_take (i := 42) (oi := _) (v := ?v42n38) rfl (by kernel_rfl) (by kernel_rfl) (by kernel_rfl) (fun _ _ _ h => h) (Or.inl ⟨by rfl, ?hy42n38⟩) (by assumption) ?rest42n38
    case hy42n38 =>
      intro w' hSw
      go_simp
      try with_reducible rfl
    try simp only [Act.put, List.getElem_toArray, List.getElem_cons_succ, List.getElem_cons_zero, List.setIfInBounds_toArray, List.set_cons_zero, List.set_cons_succ]
    refine wpAnyH_take (i := 44) (oi := _) (v := ?v44n39) rfl (by kernel_rfl) (by kernel_rfl) (by kernel_rfl) (fun _ _ _ h => h) (Or.inl ⟨by rfl, ?hy44n39⟩) (by assumption) ?rest44n39
    case hy44n39 =>
      intro w' hSw
      go_simp
      try with_reducible rfl
    try simp only [Act.put, List.getElem_toArray, List.getElem_cons_succ, List.getElem_cons_zero, List.setIfInBounds_toArray, List.set_cons_zero, List.set_cons_succ]
    refine wpAnyH_take (i := 45) (oi := _) (v := ?v45n40) rfl (by kernel_rfl) (by kernel_rfl) (by kernel_rfl) (fun _ _ _ h => h) (Or.inl ⟨by rfl, ?hy45n40⟩) (by assumption) ?rest45n40
    case hy45n40 =>
      intro w' hSw
      have hq : w'.cell? ⟨w.heap.size + 1, 0, none⟩ = some (.int .i64 n0) := (hSw.cell (p := ⟨w.heap.size + 1, 0, none⟩) (by show w.heap.size + 1 < _; omega)).trans HN0.out
      go_simp
      try with_reducible rfl
    try simp only [Act.put, List.getElem_toArray, List.getElem_cons_succ, List.getElem_cons_zero, List.setIfInBounds_toArray, List.set_cons_zero, List.set_cons_succ]
    refine wpAnyH_take (i := 46) (oi := _) (v := ?v46n41) rfl (by kernel_rfl) (by kernel_rfl) (by kernel_rfl) (fun _ _ _ h => h) (Or.inl ⟨by rfl, ?hy46n41⟩) (by assumption) ?rest46n41
    case hy46n41 =>
      intro w' hSw
      go_simp
      try with_reducible rfl
    try simp only [Act.put, List.getElem_toArray, List.getElem_cons_succ, List.getElem_cons_zero, List.setIfInBounds_toArray, List.set_cons_zero, List.set_cons_succ]
    refine wpAnyH_ready (rs := [43]) (by kernel_rfl) (by simp) (AllReadyH.cons (o := _) rfl (fun K hK => ?_) AllReadyH.nil)
    have HSZ5 : Hid (w0.heap.size ≤ w5.heap.size) := HBw5.out.size
    go_simp
    with_reducible refine (combine_any n0 sp n cap l _ ((HLV.out.below HBw5.out (by omega)).more HSZ5.out) (by omega) HKw5.out hkw5).mono ?_
    rintro e w6 ⟨rfl, hb⟩
    have HBw6 : Hid (Below w0.heap.size w0 w6) := HBw5.out.trans (hb.mono HBw5.out.size)
    clear hb
    have HKw6 := Lib.hid (HK0.out.below HBw6.out hk0)
    have hkw6 : 0 < w6.heap.size := by have := HBw6.out.size; omega
    go_wp2_with fail
    refine hK.out _ _ HBw6.out (fun hHeld => ?_)
    clear hK K
    try simp only [Act.put, List.getElem_toArray, List.getElem_cons_succ, List.getElem_cons_zero, List.setIfInBounds_toArray, List.set_cons_zero, List.set_cons_succ]
    refine wpAnyH_ready (rs := [47]) (by kernel_rfl) (by simp) (AllReadyH.cons (o := _) rfl (fun K hK => ?_) AllReadyH.nil)
    have HSZ6 : Hid (w0.heap.size ≤ w6.heap.size) := HBw6.out.size
    go_simp
    with_reducible refine (rcombine_any n0 sp n cap l _ ((HLV.out.below HBw6.out (by omega)).more HSZ6.out) (by omega)).mono ?_
    rintro e w7 ⟨rfl, hb⟩
    have HBw7 : Hid (Below w0.heap.size w0 w7) := HBw6.out.trans (hb.mono HBw6.out.size)
    clear hb
    have HKw7 := Lib.hid (HK0.out.below HBw7.out hk0)
    have hkw7 : 0 < w7.heap.size := by have := HBw7.out.size; omega
    go_wp2_with fail
    refine hK.out _ _ HBw7.out (fun hHeld => ?_)
    clear hK K
    try simp only [Act.put, List.getElem_toArray, List.getElem_cons_succ, List.getElem_cons_zero, List.setIfInBounds_toArray, List.set_cons_zero, List.set_cons_succ]
    refine wpAnyH_take (i := 48) (oi := _) (v := ?v48n42) rfl (by kernel_rfl) (by kernel_rfl) (by kernel_rfl) (fun _ _ _ h => h) (Or.inl ⟨by rfl, ?hy48n42⟩) (by assumption) ?rest48n42
    case hy48n42 =>
      intro w' hSw
      have hq := eqlH (comB_H16 n0 l) w'
      go_simp
      try with_reducible rfl
    try simp only [Act.put, List.getElem_toArray, List.getElem_cons_succ, List.getElem_cons_zero, List.setIfInBounds_toArray, List.set_cons_zero, List.set_cons_succ]
    refine wpAnyH_take (i := 49) (oi := _) (v := ?v49n43) rfl (by kernel_rfl) (by kernel_rfl) (by kernel_rfl) (fun _ _ _ h => h) (Or.inl ⟨by rfl, ?hy49n43⟩) (by assumption) ?rest49n43
    case hy49n43 =>
      intro w' hSw
      go_simp
      try with_reducible rfl
    try simp only [Act.put, List.getElem_toArray, List.getElem_cons_succ, List.getElem_cons_zero, List.setIfInBounds_toArray, List.set_cons_zero, List.set_cons_succ]
    refine wpAnyH_take (i := 50) (oi := _) (v := ?v50n44) rfl (by kernel_rfl) (by kernel_rfl) (by kernel_rfl) (fun _ _ _ h => h) (Or.inl ⟨by rfl, ?hy50n44⟩) (by assumption) ?rest50n44
    case hy50n44 =>
      intro w' hSw
      go_simp
      try with_reducible rfl
    try simp only [Act.put, List.getElem_toArray, List.getElem_cons_succ, List.getElem_cons_zero, List.setIfInBounds_toArray, List.set_cons_zero, List.set_cons_succ]
    refine wpAnyH_done (by kernel_rfl) ?_ _
    go_wp2_with fail
    go_ret
    exact ⟨rfl, HB0.out.trans (HBw7.out.mono (by omega))⟩
end Go.Proofs.YtkeieacmboidoaaDoor
