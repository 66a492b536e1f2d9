/-
  One-time signatures: the walk of OnetimeRecovers (conditions: the arguments read as a half, a number and a digest; the table of constants reads as it is laid).
-/
import Derived.Test.YtkeieacmboidoaaDoorOneU
import Derived.Test.YtkeieacmboidoaaDoorOneT
namespace Go.Proofs.YtkeieacmboidoaaDoor
open Go.RowKit Go.Proofs.YtkeieacmboidoaaDoor.One

theorem eqlHm {X : List Int} (hX : H16 X) (w : World) : (Op.equalIn 10000 23 (.agg (X.map (Value.int .u8)).toArray) (.agg (hvA X))).run Tryd.prog w = .ok true w := by
  have h := eqlH hX w
  unfold hvA at h ⊢
  exact h
theorem eqlHn {X : List Int} (hX : H16 X) (w : World) : (Op.equalIn 10000 23 (.agg (X.map (Value.int .u8)).toArray) (.agg (X.map (Value.int .u8)).toArray)).run Tryd.prog w = .ok true w := by
  have h := eqlH hX w
  unfold hvA at h
  exact h
theorem exec_neq {a : Act} {o : Oper} {w : World} {x y : Operand} {X : List Int} (hX : H16 X) (ho : o.op = .binOp .neq 23 x y 23) (hx : a.eval x = .agg (X.map (Value.int .u8)).toArray) (hy : a.eval y = .agg (X.map (Value.int .u8)).toArray) : (execOp a.eval o).run Tryd.prog w = .ok (Next.value (.bool false)) w := by
  have hq := eqlHn hX w
  generalize (X.map (Value.int .u8)).toArray = A at *
  unfold execOp
  simp only [ho, hx, hy]
  go_simp
theorem sig_at (x : List Int) (leaf : Int) (d : List Int) {i : Nat} (hi : i < 68) : (sigB x leaf d).getD i [] = sigE x leaf d i := by
  unfold sigB; simp [List.getD_eq_getElem?_getD, hi]
theorem recover_sign {x : List Int} (leaf : Int) {d : List Int} (hd : D32 d) : recB leaf d (sigB x leaf d) = pubB x leaf := by
  unfold recB pubB
  congr 1
  refine List.map_congr_left fun i hi => ?_
  have hi2 : i < 68 := List.mem_range.1 hi
  have h := digs_at hd hi2
  unfold recE endE
  rw [sig_at x leaf d hi2]
  exact climb_trans leaf i 0 _ 3 (by omega) h.1 h.2 (by omega)
set_option maxRecDepth 100000 in
set_option maxHeartbeats 4000000 in
theorem onetimeRecovers_any (x : List Int) (leaf : Int) (d : List Int) (w : World) (hx : H16 x) (hd : D32 d) (hk : KayIn w) (hk0 : 0 < w.heap.size) :
    Calls Tryd.prog 6 #[.agg (hvA x), .int .i64 leaf, .agg (dgA d)] w fun e w' => e = .returned (.bool true) ∧ Below w.heap.size w w' := by
  have HX := Lib.hid hx; have HD := Lib.hid hd; have HKI := Lib.hid hk
  have HIX := Lib.hid (info_h2 hx); have HID := Lib.hid (info_d hd)
  have HRS := Lib.hid (recover_sign (x := x) leaf hd)
  clear hx hd hk
  have HT := Lib.hid (TwoD.new w x d)
  go_enter Tryd.func6, Tryd.ntmps6
  go_wp2_with (first
    | (generalize hw0 : World.alloc (World.alloc w _) _ = w0; have HT0 : Hid (TwoD w x d w0) := (by rw [← hw0]; exact HT.out); clear hw0 HT; refine wpList_load_row rfl 23 _ rfl w.heap.size rfl 23 _ (0, 0) _ HT0.out.x Tryd.underlying23 rfl (info_h HX.out) ?_)
    | (refine wpList_load_row rfl 37 _ rfl (w.heap.size + 1) rfl 37 _ (0, 0) _ HT0.out.d Tryd.underlying37 rfl (info_dA HD.out) ?_))
  have HKA : Hid (KayIn w0) := HKI.out.below HT0.out.b hk0
  have hka : 0 < w0.heap.size := by have := HT0.out.s; omega
  refine (sign_any x leaf d w0 HX.out HD.out HKA.out hka).mono ?_
  rintro e w1 ⟨sp, cap, rfl, hown, hb1⟩
  have HSL : Hid ((sigB x leaf d).length = 68) := by show _ = _; simp [sigB]
  have HVS : Hid (HvsIn w1 w1.heap.size sp 68 cap (sigB x leaf d)) := hown.hvs HSL.out
  have hcap : 68 ≤ cap := by obtain ⟨_, _, _, _, h, _⟩ := HVS.out.cells (by decide); exact h
  have HB1 := Lib.hid hb1
  have HDR1 : Hid (w1.heap[w.heap.size + 1]? = some (.cells (dgA d) 37 (0, 0))) := (hb1.block _ (by have := HT0.out.s; omega)).trans HT0.out.d
  have HXR1 : Hid (w1.heap[w.heap.size]? = some (.cells (hvA x) 23 (0, 0))) := (hb1.block _ (by have := HT0.out.s; omega)).trans HT0.out.x
  have HBW1 : Hid (Below w.heap.size w w1) := HT0.out.b.trans (hb1.mono (by have := HT0.out.s; omega))
  have hs1 : w.heap.size + 1 < w1.heap.size := by have := hb1.size; have := HT0.out.s; omega
  clear hown hb1
  have HK1 : Hid (KayIn w1) := HKI.out.below HBW1.out hk0
  have hk1 : 0 < w1.heap.size := by omega
  clear HT0 HKA hka HB1
  go_wp2_with (refine wpList_load_row rfl 37 _ rfl (w.heap.size + 1) rfl 37 _ (0, 0) _ HDR1.out Tryd.underlying37 rfl (info_dA HD.out) ?_)
  refine (recover_yes leaf d sp cap (sigB x leaf d) w1 HD.out HVS.out HK1.out hk1).mono ?_
  rw [HRS.out]
  rintro e w2 ⟨rfl, hb2⟩
  have HB2 := Lib.hid hb2; clear hb2
  have HZN := Lib.hid (heap_alloc_new w2 (.cells (Array.replicate 16 (Value.int .u8 0)) 23))
  have HPN := Lib.hid (heap_alloc_new w2 (.cells (hvA (pubB x leaf)) 23))
  have HPB := Lib.hid (below_alloc w2 (.cells (hvA (pubB x leaf)) 23))
  have HPS := Lib.hid (alloc_size w2 (.cells (hvA (pubB x leaf)) 23))
  go_wp2_with (refine wpList_store_row rfl 23 _ _ rfl w2.heap.size _ rfl rfl 23 _ HZN.out (info_h (pubB_H16 _ _)) (size_h (pubB_H16 _ _)) (one_h _) ?_; rw [setRow_new])
  generalize hw4 : World.alloc w2 _ = w4
  have HP4 : Hid (w4.heap[w2.heap.size]? = some (.cells (hvA (pubB x leaf)) 23 (0, 0))) := by rw [← hw4]; exact HPN.out
  have HB24 : Hid (Below w2.heap.size w2 w4) := by rw [← hw4]; exact HPB.out
  have hsp4 : w2.heap.size < w4.heap.size := by have h := HPS.out; rw [hw4] at h; omega
  clear hw4 HZN HPN HPB HPS
  have HB14 : Hid (Below w1.heap.size w1 w4) := HB2.out.trans (HB24.out.mono HB2.out.size)
  have hs4 : w.heap.size + 1 < w4.heap.size := by have := HB14.out.size; omega
  have hsx4 : w.heap.size < w4.heap.size := by omega
  have HRX4 : Hid (w4.rangeAt w.heap.size 0 (x.map (Value.int .u8))) := by
    intro j v hv; rw [Nat.zero_add]; exact heap_cellO ((HB14.out.block _ (by omega)).trans HXR1.out) hv
  have HRD4 : Hid (w4.rangeAt (w.heap.size + 1) 0 (d.map (Value.int .u8))) := by
    intro j v hv; rw [Nat.zero_add]; exact heap_cellO ((HB14.out.block _ (by omega)).trans HDR1.out) hv
  have HRP : Hid (w4.rangeAt w2.heap.size 0 ((pubB x leaf).map (Value.int .u8))) := by
    intro j v hv; rw [Nat.zero_add]; exact heap_cellO HP4.out hv
  have HIP := Lib.hid (info_h2 (pubB_H16 x leaf))
  have HK4 : Hid (KayIn w4) := HK1.out.below HB14.out hk1
  have hk4 : 0 < w4.heap.size := by omega
  have HBW4 : Hid (Below w.heap.size w w4) := HBW1.out.trans (HB14.out.mono (by omega))
  have HCP := Lib.hid (fun w' (hk : KayIn w') (hk0 : 0 < w'.heap.size) => (show Calls Tryd.prog 16 #[.agg (x.map (Value.int .u8)).toArray, .int .i64 leaf] w' fun e w'' => e = .returned (.agg ((pubB x leaf).map (Value.int .u8)).toArray) ∧ Below w'.heap.size w' w'' from public_any x leaf w' HX.out hk hk0))
  have HPP := Lib.hid (pubB_H16 x leaf)
  generalize pubB x leaf = P at *
  clear HB2 HB24 HB14 HDR1 HXR1 HP4 HK1 hk1 HVS HSL HKI HRS
  go_wp2_with fail
  refine wp_region_held_drew (S := fun w' => Below w4.heap.size w4 w') (by kernel_rfl) (Below.refl _ _).drew (fun hHeld => ?_)
  refine wpAnyH_take (i := 0) (oi := _) (v := ?v0n1) rfl (by kernel_rfl) (by kernel_rfl) (by kernel_rfl) (fun _ _ _ h => h) (Or.inl ⟨by rfl, ?hy0n1⟩) (by assumption) ?rest0n1
  case hy0n1 =>
    intro w' hSw
    go_simp
    try with_reducible rfl
  try simp only [Act.put, List.getElem_toArray, List.getElem_cons_succ, List.getElem_cons_zero, List.setIfInBounds_toArray, List.set_cons_zero, List.set_cons_succ]
  refine wpAnyH_take (i := 1) (oi := _) (v := ?v1n2) rfl (by kernel_rfl) (by kernel_rfl) (by kernel_rfl) (fun _ _ _ h => h) (Or.inl ⟨by rfl, ?hy1n2⟩) (by assumption) ?rest1n2
  case hy1n2 =>
    intro w' hSw
    go_simp
    try with_reducible rfl
  try simp only [Act.put, List.getElem_toArray, List.getElem_cons_succ, List.getElem_cons_zero, List.setIfInBounds_toArray, List.set_cons_zero, List.set_cons_succ]
  refine wpAnyH_take (i := 2) (oi := _) (v := ?v2n3) rfl (by kernel_rfl) (by kernel_rfl) (by kernel_rfl) (fun _ _ _ h => h) (Or.inl ⟨by rfl, ?hy2n3⟩) (by assumption) ?rest2n3
  case hy2n3 =>
    intro w' hSw
    go_simp
    try with_reducible rfl
  try simp only [Act.put, List.getElem_toArray, List.getElem_cons_succ, List.getElem_cons_zero, List.setIfInBounds_toArray, List.set_cons_zero, List.set_cons_succ]
  refine' wpAnyH_take (i := 3) (oi := _) (v := _) rfl (by kernel_rfl) (by kernel_rfl) (by kernel_rfl) (fun _ _ _ h => h) (yieldsIf_load_mid (by rfl) _ _ rfl _ _ rfl _ _ ?hS3n4 Tryd.underlying23 rfl HIP.out) (by assumption) ?rest3n4
  case hS3n4 =>
    intro w' hSw
    exact range_belowG HRP.out hSw hsp4
  try simp only [Act.put, List.getElem_toArray, List.getElem_cons_succ, List.getElem_cons_zero, List.setIfInBounds_toArray, List.set_cons_zero, List.set_cons_succ]
  refine' wpAnyH_take (i := 4) (oi := _) (v := _) rfl (by kernel_rfl) (by kernel_rfl) (by kernel_rfl) (fun _ _ _ h => h) (yieldsIf_load_mid (by rfl) _ _ rfl _ _ rfl _ _ ?hS4n5 Tryd.underlying23 rfl HIX.out) (by assumption) ?rest4n5
  case hS4n5 =>
    intro w' hSw
    exact range_belowG HRX4.out hSw hsx4
  try simp only [Act.put, List.getElem_toArray, List.getElem_cons_succ, List.getElem_cons_zero, List.setIfInBounds_toArray, List.set_cons_zero, List.set_cons_succ]
  refine wpAnyH_take (i := 5) (oi := _) (v := ?v5n6) rfl (by kernel_rfl) (by kernel_rfl) (by kernel_rfl) (fun _ _ _ h => h) (Or.inl ⟨by rfl, ?hy5n6⟩) (by assumption) ?rest5n6
  case hy5n6 =>
    intro w' hSw
    go_simp
    try with_reducible rfl
  try simp only [Act.put, List.getElem_toArray, List.getElem_cons_succ, List.getElem_cons_zero, List.setIfInBounds_toArray, List.set_cons_zero, List.set_cons_succ]
  refine wpAnyH_ready (rs := [6]) (by kernel_rfl) (by simp) (AllReadyH.cons (o := _) rfl (fun K hK => ?_) AllReadyH.nil)
  go_simp
  with_reducible refine (HCP.out _ ((HK4.out.below hHeld hk4)) (by have := hHeld.size; omega)).mono ?_
  rintro e w5 ⟨rfl, hb⟩
  have HB5 : Hid (Below w4.heap.size w4 w5) := hHeld.trans (hb.mono hHeld.size)
  clear hb
  go_wp2_with fail
  refine hK.out _ _ HB5.out (fun hHeld => ?_)
  clear hK K
  try simp only [Act.put, List.getElem_toArray, List.getElem_cons_succ, List.getElem_cons_zero, List.setIfInBounds_toArray, List.set_cons_zero, List.set_cons_succ]
  refine wpAnyH_take (i := 7) (oi := _) (v := ?v7n7) rfl (by kernel_rfl) (by kernel_rfl) (by kernel_rfl) (fun _ _ _ h => h) (Or.inl ⟨by rfl, ?hy7n7⟩) (by assumption) ?rest7n7
  case hy7n7 =>
    intro w' hSw
    refine exec_neq (x := .tmp 26) (y := .tmp 29) HPP.out ?_ ?_ ?_ <;> rfl
  try simp only [Act.put, List.getElem_toArray, List.getElem_cons_succ, List.getElem_cons_zero, List.setIfInBounds_toArray, List.set_cons_zero, List.set_cons_succ]
  refine wpAnyH_take (i := 8) (oi := _) (v := ?v8n8) rfl (by kernel_rfl) (by kernel_rfl) (by kernel_rfl) (fun _ _ _ h => h) (Or.inl ⟨by rfl, ?hy8n8⟩) (by assumption) ?rest8n8
  case hy8n8 =>
    intro w' hSw
    go_simp
    try with_reducible rfl
  try simp only [Act.put, List.getElem_toArray, List.getElem_cons_succ, List.getElem_cons_zero, List.setIfInBounds_toArray, List.set_cons_zero, List.set_cons_succ]
  refine wpAnyH_take (i := 9) (oi := _) (v := ?v9n9) rfl (by kernel_rfl) (by kernel_rfl) (by kernel_rfl) (fun _ _ _ h => h) (Or.inl ⟨by rfl, ?hy9n9⟩) (by assumption) ?rest9n9
  case hy9n9 =>
    intro w' hSw
    go_simp
    try with_reducible rfl
  try simp only [Act.put, List.getElem_toArray, List.getElem_cons_succ, List.getElem_cons_zero, List.setIfInBounds_toArray, List.set_cons_zero, List.set_cons_succ]
  refine wpAnyH_take (i := 10) (oi := _) (v := ?v10n10) rfl (by kernel_rfl) (by kernel_rfl) (by kernel_rfl) (fun _ _ _ h => h) (Or.inl ⟨by rfl, ?hy10n10⟩) (by assumption) ?rest10n10
  case hy10n10 =>
    intro w' hSw
    go_simp
    try with_reducible rfl
  try simp only [Act.put, List.getElem_toArray, List.getElem_cons_succ, List.getElem_cons_zero, List.setIfInBounds_toArray, List.set_cons_zero, List.set_cons_succ]
  refine wpAnyH_take (i := 11) (oi := _) (v := ?v11n11) rfl (by kernel_rfl) (by kernel_rfl) (by kernel_rfl) (fun _ _ _ h => h) (Or.inl ⟨by rfl, ?hy11n11⟩) (by assumption) ?rest11n11
  case hy11n11 =>
    intro w' hSw
    go_simp
    try with_reducible rfl
  try simp only [Act.put, List.getElem_toArray, List.getElem_cons_succ, List.getElem_cons_zero, List.setIfInBounds_toArray, List.set_cons_zero, List.set_cons_succ]
  refine wpAnyH_take (i := 12) (oi := _) (v := ?v12n12) rfl (by kernel_rfl) (by kernel_rfl) (by kernel_rfl) (fun _ _ _ h => h) (Or.inl ⟨by rfl, ?hy12n12⟩) (by assumption) ?rest12n12
  case hy12n12 =>
    intro w' hSw
    go_simp
    try with_reducible rfl
  try simp only [Act.put, List.getElem_toArray, List.getElem_cons_succ, List.getElem_cons_zero, List.setIfInBounds_toArray, List.set_cons_zero, List.set_cons_succ]
  refine wpAnyH_take (i := 13) (oi := _) (v := ?v13n13) rfl (by kernel_rfl) (by kernel_rfl) (by kernel_rfl) (fun _ _ _ h => h) (Or.inl ⟨by rfl, ?hy13n13⟩) (by assumption) ?rest13n13
  case hy13n13 =>
    intro w' hSw
    go_simp
    try with_reducible rfl
  try simp only [Act.put, List.getElem_toArray, List.getElem_cons_succ, List.getElem_cons_zero, List.setIfInBounds_toArray, List.set_cons_zero, List.set_cons_succ]
  refine wpAnyH_done (by kernel_rfl) ?_ _
  go_wp2_with fail
  have HRD5 : Hid (w5.rangeAt (w.heap.size + 1) 0 (d.map (Value.int .u8))) := range_belowG HRD4.out HB5.out hs4
  have hsd5 : w.heap.size + 1 < w5.heap.size := by have := HB5.out.size; omega
  have HBW5 : Hid (Below w.heap.size w w5) := HBW4.out.trans (HB5.out.mono (by omega))
  have HLE : Hid (w.heap.size ≤ w5.heap.size) := by show _ ≤ _; omega
  have HCQ := Lib.hid (fun w' => (show Calls Tryd.prog 14 #[.int .i64 leaf, .agg (d.map (Value.int .u8)).toArray, .slice sp 67 cap] w' fun e w'' => e = .returned (.tuple #[.agg (hvA zh16), .bool false]) ∧ Below w'.heap.size w' w'' from recover_no leaf d sp 67 cap w' (by decide)))
  have hc1 : (67 : Int) ≤ (cap : Int) := by omega
  have hc2 : 67 ≤ cap := by omega
  clear HRX4 HRD4 HRP HIP HK4 hk4 HBW4 HCP hs4 hsx4 hsp4 HB5
  refine wp_region_held_drew (S := fun w' => w'.rangeAt (w.heap.size + 1) 0 (d.map (Value.int .u8))) (by kernel_rfl) HRD5.out (fun hHeld => ?_)
  refine wpAnyH_take (i := 0) (oi := _) (v := ?v0n22) rfl (by kernel_rfl) (by kernel_rfl) (by kernel_rfl) (fun _ _ _ h => h) (Or.inl ⟨by rfl, ?hy0n22⟩) (by assumption) ?rest0n22
  case hy0n22 =>
    intro w' hSw
    go_simp
    try with_reducible rfl
  try simp only [Act.put, List.getElem_toArray, List.getElem_cons_succ, List.getElem_cons_zero, List.setIfInBounds_toArray, List.set_cons_zero, List.set_cons_succ]
  refine' wpAnyH_take (i := 1) (oi := _) (v := _) rfl (by kernel_rfl) (by kernel_rfl) (by kernel_rfl) (fun _ _ _ h => h) (yieldsIf_load_mid (by rfl) _ _ rfl _ _ rfl _ _ ?hS1n23 Tryd.underlying37 rfl HID.out) (by assumption) ?rest1n23
  case hS1n23 =>
    intro w' hSw
    exact hSw
  try simp only [Act.put, List.getElem_toArray, List.getElem_cons_succ, List.getElem_cons_zero, List.setIfInBounds_toArray, List.set_cons_zero, List.set_cons_succ]
  refine wpAnyH_take (i := 2) (oi := _) (v := ?v2n24) rfl (by kernel_rfl) (by kernel_rfl) (by kernel_rfl) (fun _ _ _ h => h) (Or.inl ⟨by rfl, ?hy2n24⟩) (by assumption) ?rest2n24
  case hy2n24 =>
    intro w' hSw
    go_simp
    try with_reducible rfl
  try simp only [Act.put, List.getElem_toArray, List.getElem_cons_succ, List.getElem_cons_zero, List.setIfInBounds_toArray, List.set_cons_zero, List.set_cons_succ]
  refine wpAnyH_take (i := 3) (oi := _) (v := ?v3n25) rfl (by kernel_rfl) (by kernel_rfl) (by kernel_rfl) (fun _ _ _ h => h) (Or.inl ⟨by rfl, ?hy3n25⟩) (by assumption) ?rest3n25
  case hy3n25 =>
    intro w' hSw
    go_simp
    try with_reducible rfl
  try simp only [Act.put, List.getElem_toArray, List.getElem_cons_succ, List.getElem_cons_zero, List.setIfInBounds_toArray, List.set_cons_zero, List.set_cons_succ]
  refine wpAnyH_ready (rs := [4, 8]) (by kernel_rfl) (by simp) (AllReadyH.cons (o := _) rfl (fun K hK => ?_) (AllReadyH.cons (o := _) rfl (fun K hK => ?_) AllReadyH.nil))
  · as_aux_lemma =>
      go_simp
      with_reducible refine (HCQ.out _).mono ?_
      rintro e w6 ⟨rfl, hb⟩
      have HBw6 : Hid (Below w5.heap.size w5 w6) := (Below.refl w5.heap.size w5).drew.trans (hb.mono (Below.refl w5.heap.size w5).drew.size)
      clear hb
      go_wp2_with fail
      refine hK.out _ _ (range_belowG HRD5.out HBw6.out hsd5) (fun hHeld => ?_)
      clear hK K
      try simp only [Act.put, List.getElem_toArray, List.getElem_cons_succ, List.getElem_cons_zero, List.setIfInBounds_toArray, List.set_cons_zero, List.set_cons_succ]
      refine wpAnyH_take (i := 5) (oi := _) (v := ?v5n14) rfl (by kernel_rfl) (by kernel_rfl) (by kernel_rfl) (fun _ _ _ h => h) (Or.inl ⟨by rfl, ?hy5n14⟩) (by assumption) ?rest5n14
      case hy5n14 =>
        intro w' hSw
        go_simp
        try with_reducible rfl
      try simp only [Act.put, List.getElem_toArray, List.getElem_cons_succ, List.getElem_cons_zero, List.setIfInBounds_toArray, List.set_cons_zero, List.set_cons_succ]
      refine wpAnyH_take (i := 6) (oi := _) (v := ?v6n15) rfl (by kernel_rfl) (by kernel_rfl) (by kernel_rfl) (fun _ _ _ h => h) (Or.inl ⟨by rfl, ?hy6n15⟩) (by assumption) ?rest6n15
      case hy6n15 =>
        intro w' hSw
        go_simp
        try with_reducible rfl
      try simp only [Act.put, List.getElem_toArray, List.getElem_cons_succ, List.getElem_cons_zero, List.setIfInBounds_toArray, List.set_cons_zero, List.set_cons_succ]
      refine wpAnyH_take (i := 7) (oi := _) (v := ?v7n16) rfl (by kernel_rfl) (by kernel_rfl) (by kernel_rfl) (fun _ _ _ h => h) (Or.inl ⟨by rfl, ?hy7n16⟩) (by assumption) ?rest7n16
      case hy7n16 =>
        intro w' hSw
        go_simp
        try with_reducible rfl
      try simp only [Act.put, List.getElem_toArray, List.getElem_cons_succ, List.getElem_cons_zero, List.setIfInBounds_toArray, List.set_cons_zero, List.set_cons_succ]
      refine wpAnyH_ready (rs := [8]) (by kernel_rfl) (by simp) (AllReadyH.cons (o := _) rfl (fun K hK => ?_) AllReadyH.nil)
      have HAN := Lib.hid (heap_alloc_new w6 (.cells (Array.replicate 16 (Value.int .u8 0)) 23))
      have HAB := Lib.hid (below_alloc w6 (.cells (Array.replicate 16 (Value.int .u8 0)) 23))
      have HAS := Lib.hid (alloc_size w6 (.cells (Array.replicate 16 (Value.int .u8 0)) 23))
      go_simp
      generalize hwn : World.alloc w6 _ = w7
      have HZw7 : Hid (w7.heap[w6.heap.size]? = some (.cells (Array.replicate 16 (Value.int .u8 0)) 23 (0, 0))) := by rw [← hwn]; exact HAN.out
      have HBw7 : Hid (Below w5.heap.size w5 w7) := by rw [← hwn]; exact HBw6.out.trans (HAB.out.mono HBw6.out.size)
      have HSw7 : Hid (w6.heap.size < w7.heap.size) := by rw [← hwn]; exact Nat.lt_of_lt_of_le (Nat.lt_succ_self _) (Nat.le_of_eq HAS.out.symm)
      clear hwn HAN HAB HAS
      refine hK.out _ _ (range_belowG HRD5.out HBw7.out hsd5) (fun hHeld => ?_)
      clear hK K
      try simp only [Act.put, List.getElem_toArray, List.getElem_cons_succ, List.getElem_cons_zero, List.setIfInBounds_toArray, List.set_cons_zero, List.set_cons_succ]
      refine wpAnyH_ready (rs := [9]) (by kernel_rfl) (by simp) (AllReadyH.cons (o := _) rfl (fun K hK => ?_) AllReadyH.nil)
      rw [if_pos (by rfl)]
      refine wp_store_row 23 _ _ rfl w6.heap.size _ rfl rfl 23 _ HZw7.out (info_h zh16_H16) (size_h zh16_H16) (one_h _) ?_
      have HB8 : Hid (Below w5.heap.size w5 (w7.setRow w6.heap.size (hvA zh16))) := below_setRow HBw7.out HBw6.out.size _
      generalize World.setRow w7 w6.heap.size (hvA zh16) = w8 at *
      refine hK.out _ _ (range_belowG HRD5.out HB8.out hsd5) (fun hHeld => ?_)
      clear hK K
      try simp only [Act.put, List.getElem_toArray, List.getElem_cons_succ, List.getElem_cons_zero, List.setIfInBounds_toArray, List.set_cons_zero, List.set_cons_succ]
      refine wpAnyH_take (i := 10) (oi := _) (v := ?v10n17) rfl (by kernel_rfl) (by kernel_rfl) (by kernel_rfl) (fun _ _ _ h => h) (Or.inl ⟨by rfl, ?hy10n17⟩) (by assumption) ?rest10n17
      case hy10n17 =>
        intro w' hSw
        go_simp
        try with_reducible rfl
      try simp only [Act.put, List.getElem_toArray, List.getElem_cons_succ, List.getElem_cons_zero, List.setIfInBounds_toArray, List.set_cons_zero, List.set_cons_succ]
      refine wpAnyH_done (by kernel_rfl) ?_ _
      go_wp2_with fail
      refine (awake8_any w8).mono ?_
      rintro e w9 ⟨rfl, hb9⟩
      have HB9 := Lib.hid hb9; clear hb9
      go_wp2_with fail
      go_ret
      exact ⟨rfl, HBW5.out.trans ((HB8.out.mono HLE.out).trans (HB9.out.mono (Nat.le_trans HLE.out HB8.out.size)))⟩
  · as_aux_lemma =>
      have HAN := Lib.hid (heap_alloc_new w5 (.cells (Array.replicate 16 (Value.int .u8 0)) 23))
      have HAB := Lib.hid (below_alloc w5 (.cells (Array.replicate 16 (Value.int .u8 0)) 23))
      have HAS := Lib.hid (alloc_size w5 (.cells (Array.replicate 16 (Value.int .u8 0)) 23))
      go_simp
      generalize hwn : World.drew (World.alloc w5 _) = w6
      have HZw6 : Hid (w6.heap[w5.heap.size]? = some (.cells (Array.replicate 16 (Value.int .u8 0)) 23 (0, 0))) := by rw [← hwn]; exact HAN.out
      have HBw6 : Hid (Below w5.heap.size w5 w6) := by rw [← hwn]; exact HAB.out.drew
      have HSw6 : Hid (w5.heap.size < w6.heap.size) := by rw [← hwn]; exact Nat.lt_of_lt_of_le (Nat.lt_succ_self _) (Nat.le_of_eq HAS.out.symm)
      clear hwn HAN HAB HAS
      refine hK.out _ _ (range_belowG HRD5.out HBw6.out hsd5) (fun hHeld => ?_)
      clear hK K
      try simp only [Act.put, List.getElem_toArray, List.getElem_cons_succ, List.getElem_cons_zero, List.setIfInBounds_toArray, List.set_cons_zero, List.set_cons_succ]
      refine wpAnyH_ready (rs := [4]) (by kernel_rfl) (by simp) (AllReadyH.cons (o := _) rfl (fun K hK => ?_) AllReadyH.nil)
      go_simp
      with_reducible refine (HCQ.out _).mono ?_
      rintro e w7 ⟨rfl, hb⟩
      have HBw7 : Hid (Below w5.heap.size w5 w7) := HBw6.out.trans (hb.mono HBw6.out.size)
      have HZ7 : Hid (w7.heap[w5.heap.size]? = some (.cells (Array.replicate 16 (Value.int .u8 0)) 23 (0, 0))) := (hb.block _ HSw6.out).trans HZw6.out
      clear hb
      go_wp2_with fail
      refine hK.out _ _ (range_belowG HRD5.out HBw7.out hsd5) (fun hHeld => ?_)
      clear hK K
      try simp only [Act.put, List.getElem_toArray, List.getElem_cons_succ, List.getElem_cons_zero, List.setIfInBounds_toArray, List.set_cons_zero, List.set_cons_succ]
      refine wpAnyH_take (i := 5) (oi := _) (v := ?v5n18) rfl (by kernel_rfl) (by kernel_rfl) (by kernel_rfl) (fun _ _ _ h => h) (Or.inl ⟨by rfl, ?hy5n18⟩) (by assumption) ?rest5n18
      case hy5n18 =>
        intro w' hSw
        go_simp
        try with_reducible rfl
      try simp only [Act.put, List.getElem_toArray, List.getElem_cons_succ, List.getElem_cons_zero, List.setIfInBounds_toArray, List.set_cons_zero, List.set_cons_succ]
      refine wpAnyH_take (i := 6) (oi := _) (v := ?v6n19) rfl (by kernel_rfl) (by kernel_rfl) (by kernel_rfl) (fun _ _ _ h => h) (Or.inl ⟨by rfl, ?hy6n19⟩) (by assumption) ?rest6n19
      case hy6n19 =>
        intro w' hSw
        go_simp
        try with_reducible rfl
      try simp only [Act.put, List.getElem_toArray, List.getElem_cons_succ, List.getElem_cons_zero, List.setIfInBounds_toArray, List.set_cons_zero, List.set_cons_succ]
      refine wpAnyH_take (i := 7) (oi := _) (v := ?v7n20) rfl (by kernel_rfl) (by kernel_rfl) (by kernel_rfl) (fun _ _ _ h => h) (Or.inl ⟨by rfl, ?hy7n20⟩) (by assumption) ?rest7n20
      case hy7n20 =>
        intro w' hSw
        go_simp
        try with_reducible rfl
      try simp only [Act.put, List.getElem_toArray, List.getElem_cons_succ, List.getElem_cons_zero, List.setIfInBounds_toArray, List.set_cons_zero, List.set_cons_succ]
      refine wpAnyH_ready (rs := [9]) (by kernel_rfl) (by simp) (AllReadyH.cons (o := _) rfl (fun K hK => ?_) AllReadyH.nil)
      rw [if_pos (by rfl)]
      refine wp_store_row 23 _ _ rfl w5.heap.size _ rfl rfl 23 _ HZ7.out (info_h zh16_H16) (size_h zh16_H16) (one_h _) ?_
      have HB8 : Hid (Below w5.heap.size w5 (w7.setRow w5.heap.size (hvA zh16))) := below_setRow HBw7.out (Nat.le_refl _) _
      generalize World.setRow w7 w5.heap.size (hvA zh16) = w8 at *
      refine hK.out _ _ (range_belowG HRD5.out HB8.out hsd5) (fun hHeld => ?_)
      clear hK K
      try simp only [Act.put, List.getElem_toArray, List.getElem_cons_succ, List.getElem_cons_zero, List.setIfInBounds_toArray, List.set_cons_zero, List.set_cons_succ]
      refine wpAnyH_take (i := 10) (oi := _) (v := ?v10n21) rfl (by kernel_rfl) (by kernel_rfl) (by kernel_rfl) (fun _ _ _ h => h) (Or.inl ⟨by rfl, ?hy10n21⟩) (by assumption) ?rest10n21
      case hy10n21 =>
        intro w' hSw
        go_simp
        try with_reducible rfl
      try simp only [Act.put, List.getElem_toArray, List.getElem_cons_succ, List.getElem_cons_zero, List.setIfInBounds_toArray, List.set_cons_zero, List.set_cons_succ]
      refine wpAnyH_done (by kernel_rfl) ?_ _
      go_wp2_with fail
      refine (awake8_any w8).mono ?_
      rintro e w9 ⟨rfl, hb9⟩
      have HB9 := Lib.hid hb9; clear hb9
      go_wp2_with fail
      go_ret
      exact ⟨rfl, HBW5.out.trans ((HB8.out.mono HLE.out).trans (HB9.out.mono (Nat.le_trans HLE.out HB8.out.size)))⟩
end Go.Proofs.YtkeieacmboidoaaDoor
