/-
  One-time signatures: the walk of the reference's Same at equal lists, and of OnetimeSigns (conditions: the arguments read as a leaf, a digest and a list of halves; the table of constants reads as it is laid).
-/
import Derived.Test.YtkeieacmboidoaaDoorOneV
namespace Go.Proofs.YtkeieacmboidoaaDoor
open Go.RowKit Go.Proofs.YtkeieacmboidoaaDoor.One

set_option maxRecDepth 100000 in
set_option maxHeartbeats 4000000 in
theorem sameH_any (sp1 sp2 : Option Addr) (n c1 c2 : Nat) (l : List (List Int)) (w : World) (h1 : HvsIn w w.heap.size sp1 n c1 l) (h2 : HvsIn w w.heap.size sp2 n c2 l) (hn : n ≤ 1000) :
    Calls Tryd.prog 18 #[.slice sp1 n c1, .slice sp2 n c2] w fun e w' => e = .returned (.bool true) ∧ Below w.heap.size w w' := by
  have H1 := Lib.hid h1; have H2 := Lib.hid h2; clear h1 h2
  go_enter Tryd.func18, Tryd.ntmps18
  go_wp2_with fail
  go_loopw [5] (fun i wr => ∃ k : Nat, k ≤ n ∧ i = .int .i64 k ∧ Hid (Below w.heap.size w wr)) (fun i _ => n - (intOf i).toNat)
  case atStart => exact ⟨0, Nat.zero_le _, rfl, Below.refl _ _⟩
  case round =>
    obtain ⟨k, hk, rfl, HB⟩ := hrel
    by_cases hlt : k < n
    · have hd : decide ((k : Int) < (n : Int)) = true := by simp; omega
      have p1 : (0 : Int) ≤ (k : Int) := by omega
      have p2 : (k : Int) < (n : Int) := by omega
      obtain ⟨b1, o1, rfl, hb1, _, hr1⟩ := H1.out.cells (by omega)
      obtain ⟨b2, o2, rfl, hb2, _, hr2⟩ := H2.out.cells (by omega)
      have HR1 := Lib.hid (hr1 k hlt); have HR2 := Lib.hid (hr2 k hlt)
      have HOK := Lib.hid (H1.out.at16 hlt)
      clear hr1 hr2
      generalize l.getD k [] = y at *
      have HIY := Lib.hid (info_h2 HOK.out)
      go_wp2_with fail
      refine wp_region_held_drew (S := fun w' => Below w.heap.size w w') (by kernel_rfl) HB.out.drew (fun hHeld => ?_)
      refine wpAnyH_take (i := 0) (oi := _) (v := ?v0n1) rfl (by kernel_rfl) (by kernel_rfl) (by kernel_rfl) (fun _ _ _ h => h) (Or.inl ⟨by rfl, ?hy0n1⟩) (by assumption) ?rest0n1
      case hy0n1 =>
        intro w' hSw
        go_simp
        try with_reducible rfl
      try simp only [Act.put, List.getElem_toArray, List.getElem_cons_succ, List.getElem_cons_zero, List.setIfInBounds_toArray, List.set_cons_zero, List.set_cons_succ]
      refine wpAnyH_take (i := 1) (oi := _) (v := ?v1n2) rfl (by kernel_rfl) (by kernel_rfl) (by kernel_rfl) (fun _ _ _ h => h) (Or.inl ⟨by rfl, ?hy1n2⟩) (by assumption) ?rest1n2
      case hy1n2 =>
        intro w' hSw
        go_simp
        try with_reducible rfl
      try simp only [Act.put, List.getElem_toArray, List.getElem_cons_succ, List.getElem_cons_zero, List.setIfInBounds_toArray, List.set_cons_zero, List.set_cons_succ]
      refine wpAnyH_take (i := 2) (oi := _) (v := ?v2n3) rfl (by kernel_rfl) (by kernel_rfl) (by kernel_rfl) (fun _ _ _ h => h) (Or.inl ⟨by rfl, ?hy2n3⟩) (by assumption) ?rest2n3
      case hy2n3 =>
        intro w' hSw
        go_simp
        try with_reducible rfl
      try simp only [Act.put, List.getElem_toArray, List.getElem_cons_succ, List.getElem_cons_zero, List.setIfInBounds_toArray, List.set_cons_zero, List.set_cons_succ]
      refine' wpAnyH_take (i := 3) (oi := _) (v := _) rfl (by kernel_rfl) (by kernel_rfl) (by kernel_rfl) (fun _ _ _ h => h) (yieldsIf_load_mid (by rfl) _ _ rfl _ _ rfl _ _ ?hS3n4 Tryd.underlying23 rfl HIY.out) (by assumption) ?rest3n4
      case hS3n4 =>
        intro w' hSw
        exact range_belowG HR1.out hSw hb1
      try simp only [Act.put, List.getElem_toArray, List.getElem_cons_succ, List.getElem_cons_zero, List.setIfInBounds_toArray, List.set_cons_zero, List.set_cons_succ]
      refine wpAnyH_take (i := 4) (oi := _) (v := ?v4n5) rfl (by kernel_rfl) (by kernel_rfl) (by kernel_rfl) (fun _ _ _ h => h) (Or.inl ⟨by rfl, ?hy4n5⟩) (by assumption) ?rest4n5
      case hy4n5 =>
        intro w' hSw
        go_simp
        try with_reducible rfl
      try simp only [Act.put, List.getElem_toArray, List.getElem_cons_succ, List.getElem_cons_zero, List.setIfInBounds_toArray, List.set_cons_zero, List.set_cons_succ]
      refine wpAnyH_take (i := 5) (oi := _) (v := ?v5n6) rfl (by kernel_rfl) (by kernel_rfl) (by kernel_rfl) (fun _ _ _ h => h) (Or.inl ⟨by rfl, ?hy5n6⟩) (by assumption) ?rest5n6
      case hy5n6 =>
        intro w' hSw
        go_simp
        try with_reducible rfl
      try simp only [Act.put, List.getElem_toArray, List.getElem_cons_succ, List.getElem_cons_zero, List.setIfInBounds_toArray, List.set_cons_zero, List.set_cons_succ]
      refine wpAnyH_take (i := 6) (oi := _) (v := ?v6n7) rfl (by kernel_rfl) (by kernel_rfl) (by kernel_rfl) (fun _ _ _ h => h) (Or.inl ⟨by rfl, ?hy6n7⟩) (by assumption) ?rest6n7
      case hy6n7 =>
        intro w' hSw
        go_simp
        try with_reducible rfl
      try simp only [Act.put, List.getElem_toArray, List.getElem_cons_succ, List.getElem_cons_zero, List.setIfInBounds_toArray, List.set_cons_zero, List.set_cons_succ]
      refine' wpAnyH_take (i := 7) (oi := _) (v := _) rfl (by kernel_rfl) (by kernel_rfl) (by kernel_rfl) (fun _ _ _ h => h) (yieldsIf_load_mid (by rfl) _ _ rfl _ _ rfl _ _ ?hS7n8 Tryd.underlying23 rfl HIY.out) (by assumption) ?rest7n8
      case hS7n8 =>
        intro w' hSw
        exact range_belowG HR2.out hSw hb2
      try simp only [Act.put, List.getElem_toArray, List.getElem_cons_succ, List.getElem_cons_zero, List.setIfInBounds_toArray, List.set_cons_zero, List.set_cons_succ]
      refine wpAnyH_take (i := 8) (oi := _) (v := ?v8n9) rfl (by kernel_rfl) (by kernel_rfl) (by kernel_rfl) (fun _ _ _ h => h) (Or.inl ⟨by rfl, ?hy8n9⟩) (by assumption) ?rest8n9
      case hy8n9 =>
        intro w' hSw
        refine exec_neq (x := .tmp 20) (y := .tmp 24) HOK.out ?_ ?_ ?_ <;> rfl
      try simp only [Act.put, List.getElem_toArray, List.getElem_cons_succ, List.getElem_cons_zero, List.setIfInBounds_toArray, List.set_cons_zero, List.set_cons_succ]
      refine wpAnyH_done (by kernel_rfl) ?_ _
      go_wp2_with fail
      have HB3 : Hid (Below w.heap.size w wr.drew) := HB.out.drew
      go_roundw
      case rel => exact ⟨k + 1, by omega, by go_num, HB3⟩
      case measure => simp [intOf]; omega
    · obtain rfl : k = n := by omega
      have hd : decide ((k : Int) < (k : Int)) = false := by simp
      go_wp2_with fail
      go_ret
      exact ⟨rfl, HB.out⟩
/-- a leaf's cells -/
def lfL (x : List Int) (n : Int) : List Value := x.map (Value.int .u8) ++ [.int .i64 n]
/-- two boxes: a leaf and a digest -/
structure LfD (w : World) (x : List Int) (n : Int) (d : List Int) (w0 : World) : Prop where
  x : w0.rangeAt w.heap.size 0 (x.map (Value.int .u8))
  n : w0.cell? ⟨w.heap.size, 16, none⟩ = some (.int .i64 n)
  d : w0.heap[w.heap.size + 1]? = some (.cells (dgA d) 37 (0, 0))
  b : Below w.heap.size w w0
  s : w0.heap.size = w.heap.size + 2
theorem LfD.new (w : World) {x : List Int} (hx : H16 x) (n : Int) (d : List Int) : LfD w x n d ((w.alloc (.cells (lfL x n).toArray 35)).alloc (.cells (dgA d) 37)) := by
  have h1 := heap_alloc_new w (.cells (lfL x n).toArray 35)
  have b1 := below_alloc w (.cells (lfL x n).toArray 35)
  have s1 := alloc_size w (.cells (lfL x n).toArray 35)
  generalize w.alloc (.cells (lfL x n).toArray 35) = w1 at *
  have h2 := heap_alloc_new w1 (.cells (dgA d) 37)
  have b2 := below_alloc w1 (.cells (dgA d) 37)
  have s2 := alloc_size w1 (.cells (dgA d) 37)
  generalize w1.alloc (.cells (dgA d) 37) = w2 at *
  have h3 : w2.heap[w.heap.size]? = some (.cells (lfL x n).toArray 35 (0, 0)) := (b2.block _ (by omega)).trans h1
  rw [s1] at h2
  have hl : (x.map (Value.int .u8)).length = 16 := by rw [List.length_map, hx.1]
  refine ⟨fun j v hv => ?_, ?_, h2, b1.trans (b2.mono (by omega)), by omega⟩
  · rw [Nat.zero_add]
    refine heap_cellO h3 ?_
    unfold lfL
    rw [List.getElem?_append_left (List.getElem?_eq_some_iff.1 hv).1]; exact hv
  · refine heap_cellO h3 ?_
    unfold lfL
    rw [List.getElem?_append_right (by omega), hl]; rfl
/-- what Recover answers -/
def ansB (leaf : Int) (d : List Int) (n : Nat) (l : List (List Int)) : List Int := if n = 68 then recB leaf d l else zh16
def okB (n : Nat) : Bool := decide (n = 68)
theorem ansB_H16 (leaf : Int) (d : List Int) (n : Nat) (l : List (List Int)) : H16 (ansB leaf d n l) := by
  unfold ansB; split
  · exact recB_H16 _ _ _
  · exact zh16_H16
theorem recover_all (leaf : Int) (d : List Int) (sp : Option Addr) (n cap : Nat) (l : List (List Int)) (w : World) (hd : D32 d) (hl : HvsIn w w.heap.size sp n cap l) (hk : KayIn w) (hk0 : 0 < w.heap.size) :
    Calls Tryd.prog 14 #[.int .i64 leaf, .agg (dgA d), .slice sp n cap] w fun e w' => e = .returned (.tuple #[.agg (hvA (ansB leaf d n l)), .bool (okB n)]) ∧ Below w.heap.size w w' := by
  by_cases h : n = 68
  · subst h; exact recover_yes leaf d sp cap l w hd hl hk hk0
  · unfold ansB okB; rw [if_neg h, decide_eq_false h]; exact recover_no leaf d sp n cap w h
theorem rrecover_all (leaf : Int) (d : List Int) (sp : Option Addr) (n cap : Nat) (l : List (List Int)) (w : World) (hd : D32 d) (hl : HvsIn w w.heap.size sp n cap l) :
    Calls Tryd.prog 15 #[.int .i64 leaf, .agg (dgA d), .slice sp n cap] w fun e w' => e = .returned (.tuple #[.agg (hvA (ansB leaf d n l)), .bool (okB n)]) ∧ Below w.heap.size w w' := by
  by_cases h : n = 68
  · subst h; exact rrecover_yes leaf d sp cap l w hd hl
  · unfold ansB okB; rw [if_neg h, decide_eq_false h]; exact rrecover_no leaf d sp n cap w h
theorem exec_eqlV {a : Act} {o : Oper} {w : World} {x y : Operand} {V : Array Value} (hq : (Op.equalIn 10000 23 (.agg V) (.agg V)).run Tryd.prog w = .ok true w) (ho : o.op = .binOp .eql 23 x y 23) (hx : a.eval x = .agg V) (hy : a.eval y = .agg V) : (execOp a.eval o).run Tryd.prog w = .ok (Next.value (.bool true)) w := by
  unfold execOp
  simp only [ho, hx, hy]
  go_simp
set_option maxRecDepth 100000 in
set_option maxHeartbeats 4000000 in
theorem onetimeSigns_any (x : List Int) (leaf : Int) (d : List Int) (sp : Option Addr) (n cap : Nat) (l : List (List Int)) (w : World) (hx : H16 x) (hd : D32 d) (hl : HvsIn w w.heap.size sp n cap l) (hk : KayIn w) (hk0 : 0 < w.heap.size) :
    Calls Tryd.prog 5 #[.agg (lfL x leaf).toArray, .agg (dgA d), .slice sp n cap] w fun e w' => e = .returned (.bool true) ∧ Below w.heap.size w w' := by
  have HX := Lib.hid hx; have HD := Lib.hid hd; have HKI := Lib.hid hk; have HLV := Lib.hid hl
  have HIX := Lib.hid (info_h2 hx); have HID := Lib.hid (info_d hd)
  have HT := Lib.hid (LfD.new w hx leaf d)
  clear hx hd hk hl
  generalize (lfL x leaf).toArray = LA at *
  by_cases hbig : 100 < n
  · have hdd : decide ((n : Int) > 100) = true := by simp; omega
    go_enter Tryd.func5, Tryd.ntmps5
    go_wp2
    go_ret
    exact ⟨rfl, HT.out.b⟩
  · have hdd : decide ((n : Int) > 100) = false := by simp; omega
    have HA16 := Lib.hid (ansB_H16 leaf d n l)
    have HRC := Lib.hid (fun w' => recover_all leaf d sp n cap l w' HD.out)
    have HRD := Lib.hid (fun w' => rrecover_all leaf d sp n cap l w' HD.out)
    generalize ansB leaf d n l = A at *
    generalize okB n = q at *
    have c16 := HT.out.n
    go_enter Tryd.func5, Tryd.ntmps5
    go_wp2_with (generalize hw0 : World.alloc (World.alloc w _) _ = w0; have HT0 : Hid (LfD w x leaf d w0) := (by rw [← hw0]; exact HT.out); clear hw0 HT c16; refine wpList_load_row rfl 37 _ rfl (w.heap.size + 1) rfl 37 _ (0, 0) _ HT0.out.d Tryd.underlying37 rfl (info_dA HD.out) ?_)
    have hs0 : w.heap.size + 1 < w0.heap.size := by have := HT0.out.s; omega
    have HK0 : Hid (KayIn w0) := HKI.out.below HT0.out.b hk0
    refine (HRC.out w0 ((HLV.out.below HT0.out.b (Nat.le_refl _)).more (by omega)) HK0.out (by omega)).mono ?_
    rintro e w1 ⟨rfl, hb1⟩
    have HB1 := Lib.hid hb1; clear hb1
    have hs1 : w.heap.size + 1 < w1.heap.size := by have := HB1.out.size; omega
    have HZ1 := Lib.hid (heap_alloc_new w1 (.cells (Array.replicate 16 (Value.int .u8 0)) 23))
    have HA1 := Lib.hid (heap_alloc_new w1 (.cells (hvA A) 23))
    have HAB1 := Lib.hid (below_alloc w1 (.cells (hvA A) 23))
    have HAS1 := Lib.hid (alloc_size w1 (.cells (hvA A) 23))
    go_wp2_with (first
      | (refine wpList_store_row rfl 23 _ _ rfl w1.heap.size _ rfl rfl 23 _ HZ1.out (info_h HA16.out) (size_h HA16.out) (one_h _) ?_; rw [setRow_new]; generalize hw3 : World.alloc w1 _ = w3; have HP3 : Hid (w3.heap[w1.heap.size]? = some (.cells (hvA A) 23 (0, 0))) := (by rw [← hw3]; exact HA1.out); have HB3 : Hid (Below w1.heap.size w1 w3) := (by rw [← hw3]; exact HAB1.out); have hs3 : w1.heap.size < w3.heap.size := (by have h := HAS1.out; rw [hw3] at h; omega); have HB03 : Hid (Below w0.heap.size w0 w3) := HB1.out.trans (HB3.out.mono HB1.out.size); have c16 : w3.cell? ⟨w.heap.size, 16, none⟩ = some (.int .i64 leaf) := (HB03.out.cell (p := ⟨w.heap.size, 16, none⟩) (by show w.heap.size < _; omega)).trans HT0.out.n; have HD3 : Hid (w3.heap[w.heap.size + 1]? = some (.cells (dgA d) 37 (0, 0))) := (HB03.out.block _ hs0).trans HT0.out.d; clear hw3 HZ1 HA1 HAB1 HAS1)
      | (refine wpList_load_row rfl 37 _ rfl (w.heap.size + 1) rfl 37 _ (0, 0) _ HD3.out Tryd.underlying37 rfl (info_dA HD.out) ?_))
    clear c16
    have HBW3 : Hid (Below w.heap.size w w3) := HT0.out.b.trans (HB03.out.mono (by omega))
    refine (HRD.out w3 ((HLV.out.below HBW3.out (Nat.le_refl _)).more (by omega))).mono ?_
    rintro e w4 ⟨rfl, hb4⟩
    have HB4 := Lib.hid hb4; clear hb4
    have hs4 : w1.heap.size < w4.heap.size := by have := HB4.out.size; omega
    have HZ4 := Lib.hid (heap_alloc_new w4 (.cells (Array.replicate 16 (Value.int .u8 0)) 23))
    have HA4 := Lib.hid (heap_alloc_new w4 (.cells (hvA A) 23))
    have HAB4 := Lib.hid (below_alloc w4 (.cells (hvA A) 23))
    have HAS4 := Lib.hid (alloc_size w4 (.cells (hvA A) 23))
    go_wp2_with (refine wpList_store_row rfl 23 _ _ rfl w4.heap.size _ rfl rfl 23 _ HZ4.out (info_h HA16.out) (size_h HA16.out) (one_h _) ?_; rw [setRow_new])
    generalize hw5 : World.alloc w4 _ = w5
    have HP5 : Hid (w5.heap[w4.heap.size]? = some (.cells (hvA A) 23 (0, 0))) := by rw [← hw5]; exact HA4.out
    have HB5 : Hid (Below w4.heap.size w4 w5) := by rw [← hw5]; exact HAB4.out
    have hs5 : w4.heap.size < w5.heap.size := by have h := HAS4.out; rw [hw5] at h; omega
    clear hw5 HZ4 HA4 HAB4 HAS4
    have HB35 : Hid (Below w3.heap.size w3 w5) := HB4.out.trans (HB5.out.mono HB4.out.size)
    have HB05 : Hid (Below w0.heap.size w0 w5) := HB03.out.trans (HB35.out.mono (by have := HB03.out.size; omega))
    have HRX : Hid (w5.rangeAt w.heap.size 0 (x.map (Value.int .u8))) := range_belowG HT0.out.x HB05.out (by omega)
    have HN16 : Hid (w5.cell? ⟨w.heap.size, 16, none⟩ = some (.int .i64 leaf)) := (HB05.out.cell (p := ⟨w.heap.size, 16, none⟩) (by show w.heap.size < _; omega)).trans HT0.out.n
    have HRD5 : Hid (w5.rangeAt (w.heap.size + 1) 0 (d.map (Value.int .u8))) := by
      intro j v hv; rw [Nat.zero_add]; exact heap_cellO ((HB05.out.block _ hs0).trans HT0.out.d) hv
    have HRP : Hid (w5.rangeAt w1.heap.size 0 (A.map (Value.int .u8))) := by
      intro j v hv; rw [Nat.zero_add]; exact heap_cellO ((HB35.out.block _ hs3).trans HP3.out) hv
    have HRQ : Hid (w5.rangeAt w4.heap.size 0 (A.map (Value.int .u8))) := by
      intro j v hv; rw [Nat.zero_add]; exact heap_cellO HP5.out hv
    have HIA := Lib.hid (info_h2 HA16.out)
    have HBW5 : Hid (Below w.heap.size w w5) := HT0.out.b.trans (HB05.out.mono (by omega))
    have HK5 : Hid (KayIn w5) := HKI.out.below HBW5.out hk0
    have hk5 : 0 < w5.heap.size := by omega
    have hsx : w.heap.size < w5.heap.size := by omega
    have hsd : w.heap.size + 1 < w5.heap.size := by omega
    have hsp : w1.heap.size < w5.heap.size := by omega
    have HPP := Lib.hid (pubB_H16 x leaf)
    have HC1 := Lib.hid (fun w' (hk : KayIn w') (hk0 : 0 < w'.heap.size) => (show Calls Tryd.prog 16 #[.agg (x.map (Value.int .u8)).toArray, .int .i64 leaf] w' fun e w'' => e = .returned (.agg (hvA (pubB x leaf))) ∧ Below w'.heap.size w' w'' from public_any x leaf w' HX.out hk hk0))
    have HC2 := Lib.hid (fun w' => (show Calls Tryd.prog 17 #[.agg (x.map (Value.int .u8)).toArray, .int .i64 leaf] w' fun e w'' => e = .returned (.agg (hvA (pubB x leaf))) ∧ Below w'.heap.size w' w'' from rpublic_any x leaf w' HX.out))
    have HC3 := Lib.hid (fun w' (hk : KayIn w') (hk0 : 0 < w'.heap.size) => (show Calls Tryd.prog 19 #[.agg (x.map (Value.int .u8)).toArray, .int .i64 leaf, .agg (d.map (Value.int .u8)).toArray] w' fun e w'' => ∃ sp cap, e = .returned (.slice sp 68 cap) ∧ OwnHv w'' w'.heap.size (.slice sp 68 cap) (sigB x leaf d) ∧ Below w'.heap.size w' w'' from sign_any x leaf d w' HX.out HD.out hk hk0))
    have HC4 := Lib.hid (fun w' => (show Calls Tryd.prog 20 #[.agg (x.map (Value.int .u8)).toArray, .int .i64 leaf, .agg (d.map (Value.int .u8)).toArray] w' fun e w'' => ∃ sp cap, e = .returned (.slice sp 68 cap) ∧ OwnHv w'' w'.heap.size (.slice sp 68 cap) (sigB x leaf d) ∧ Below w'.heap.size w' w'' from rsign_any x leaf d w' HX.out HD.out))
    have HSL : Hid ((sigB x leaf d).length = 68) := by show _ = _; unfold sigB; rw [List.length_map, List.length_range]
    generalize pubB x leaf = P at *
    generalize sigB x leaf d = S at *
    clear HT0 HB1 HB3 HB03 HD3 HP3 HBW3 HB4 HB5 HB35 HB05 HP5 HKI HLV HK0 HRC HRD
    clear hs0 hs1 hs3 hs4
    go_wp2_with fail
    refine wp_region_held_drew (S := fun w' => Below w5.heap.size w5 w') (by kernel_rfl) (Below.refl _ _).drew (fun hHeld => ?_)
    refine wpAnyH_ready (rs := [0]) (by kernel_rfl) (by simp) (AllReadyH.cons (o := _) rfl (fun K hK => ?_) AllReadyH.nil)
    go_simp
    with_reducible refine (awake8_any _).mono ?_
    rintro e w6 ⟨rfl, hb⟩
    have HBw6 : Hid (Below w5.heap.size w5 w6) := hHeld.trans (hb.mono hHeld.size)
    clear hb
    have HKw6 := Lib.hid (HK5.out.below HBw6.out hk5)
    have hkw6 : 0 < w6.heap.size := by have := HBw6.out.size; omega
    go_wp2_with fail
    refine hK.out _ _ HBw6.out (fun hHeld => ?_)
    clear hK K
    try simp only [Act.put, List.getElem_toArray, List.getElem_cons_succ, List.getElem_cons_zero, List.setIfInBounds_toArray, List.set_cons_zero, List.set_cons_succ]
    refine wpAnyH_take (i := 1) (oi := _) (v := ?v1n10) rfl (by kernel_rfl) (by kernel_rfl) (by kernel_rfl) (fun _ _ _ h => h) (Or.inl ⟨by rfl, ?hy1n10⟩) (by assumption) ?rest1n10
    case hy1n10 =>
      intro w' hSw
      go_simp
      try with_reducible rfl
    try simp only [Act.put, List.getElem_toArray, List.getElem_cons_succ, List.getElem_cons_zero, List.setIfInBounds_toArray, List.set_cons_zero, List.set_cons_succ]
    refine wpAnyH_take (i := 2) (oi := _) (v := ?v2n11) rfl (by kernel_rfl) (by kernel_rfl) (by kernel_rfl) (fun _ _ _ h => h) (Or.inl ⟨by rfl, ?hy2n11⟩) (by assumption) ?rest2n11
    case hy2n11 =>
      intro w' hSw
      go_simp
      try with_reducible rfl
    try simp only [Act.put, List.getElem_toArray, List.getElem_cons_succ, List.getElem_cons_zero, List.setIfInBounds_toArray, List.set_cons_zero, List.set_cons_succ]
    refine' wpAnyH_take (i := 3) (oi := _) (v := _) rfl (by kernel_rfl) (by kernel_rfl) (by kernel_rfl) (fun _ _ _ h => h) (yieldsIf_load_mid (by rfl) _ _ rfl _ _ rfl _ _ ?hS3n12 Tryd.underlying23 rfl HIX.out) (by assumption) ?rest3n12
    case hS3n12 =>
      intro w' hSw
      exact range_belowG HRX.out hSw hsx
    try simp only [Act.put, List.getElem_toArray, List.getElem_cons_succ, List.getElem_cons_zero, List.setIfInBounds_toArray, List.set_cons_zero, List.set_cons_succ]
    refine wpAnyH_take (i := 4) (oi := _) (v := ?v4n13) rfl (by kernel_rfl) (by kernel_rfl) (by kernel_rfl) (fun _ _ _ h => h) (Or.inl ⟨by rfl, ?hy4n13⟩) (by assumption) ?rest4n13
    case hy4n13 =>
      intro w' hSw
      go_simp
      try with_reducible rfl
    try simp only [Act.put, List.getElem_toArray, List.getElem_cons_succ, List.getElem_cons_zero, List.setIfInBounds_toArray, List.set_cons_zero, List.set_cons_succ]
    refine wpAnyH_take (i := 5) (oi := _) (v := ?v5n14) rfl (by kernel_rfl) (by kernel_rfl) (by kernel_rfl) (fun _ _ _ h => h) (Or.inl ⟨by rfl, ?hy5n14⟩) (by assumption) ?rest5n14
    case hy5n14 =>
      intro w' hSw
      have hq : w'.cell? ⟨w.heap.size, 16, none⟩ = some (.int .i64 leaf) := (hSw.cell (p := ⟨w.heap.size, 16, none⟩) (by show w.heap.size < _; exact hsx)).trans HN16.out
      go_simp
      try with_reducible rfl
    try simp only [Act.put, List.getElem_toArray, List.getElem_cons_succ, List.getElem_cons_zero, List.setIfInBounds_toArray, List.set_cons_zero, List.set_cons_succ]
    refine wpAnyH_take (i := 7) (oi := _) (v := ?v7n15) rfl (by kernel_rfl) (by kernel_rfl) (by kernel_rfl) (fun _ _ _ h => h) (Or.inl ⟨by rfl, ?hy7n15⟩) (by assumption) ?rest7n15
    case hy7n15 =>
      intro w' hSw
      go_simp
      try with_reducible rfl
    try simp only [Act.put, List.getElem_toArray, List.getElem_cons_succ, List.getElem_cons_zero, List.setIfInBounds_toArray, List.set_cons_zero, List.set_cons_succ]
    refine' wpAnyH_take (i := 8) (oi := _) (v := _) rfl (by kernel_rfl) (by kernel_rfl) (by kernel_rfl) (fun _ _ _ h => h) (yieldsIf_load_mid (by rfl) _ _ rfl _ _ rfl _ _ ?hS8n16 Tryd.underlying23 rfl HIX.out) (by assumption) ?rest8n16
    case hS8n16 =>
      intro w' hSw
      exact range_belowG HRX.out hSw hsx
    try simp only [Act.put, List.getElem_toArray, List.getElem_cons_succ, List.getElem_cons_zero, List.setIfInBounds_toArray, List.set_cons_zero, List.set_cons_succ]
    refine wpAnyH_take (i := 9) (oi := _) (v := ?v9n17) rfl (by kernel_rfl) (by kernel_rfl) (by kernel_rfl) (fun _ _ _ h => h) (Or.inl ⟨by rfl, ?hy9n17⟩) (by assumption) ?rest9n17
    case hy9n17 =>
      intro w' hSw
      go_simp
      try with_reducible rfl
    try simp only [Act.put, List.getElem_toArray, List.getElem_cons_succ, List.getElem_cons_zero, List.setIfInBounds_toArray, List.set_cons_zero, List.set_cons_succ]
    refine wpAnyH_take (i := 10) (oi := _) (v := ?v10n18) rfl (by kernel_rfl) (by kernel_rfl) (by kernel_rfl) (fun _ _ _ h => h) (Or.inl ⟨by rfl, ?hy10n18⟩) (by assumption) ?rest10n18
    case hy10n18 =>
      intro w' hSw
      have hq : w'.cell? ⟨w.heap.size, 16, none⟩ = some (.int .i64 leaf) := (hSw.cell (p := ⟨w.heap.size, 16, none⟩) (by show w.heap.size < _; exact hsx)).trans HN16.out
      go_simp
      try with_reducible rfl
    try simp only [Act.put, List.getElem_toArray, List.getElem_cons_succ, List.getElem_cons_zero, List.setIfInBounds_toArray, List.set_cons_zero, List.set_cons_succ]
    refine wpAnyH_ready (rs := [6]) (by kernel_rfl) (by simp) (AllReadyH.cons (o := _) rfl (fun K hK => ?_) AllReadyH.nil)
    go_simp
    with_reducible refine (HC1.out _ HKw6.out hkw6).mono ?_
    rintro e w7 ⟨rfl, hb⟩
    have HBw7 : Hid (Below w5.heap.size w5 w7) := HBw6.out.trans (hb.mono HBw6.out.size)
    clear hb
    have HKw7 := Lib.hid (HK5.out.below HBw7.out hk5)
    have hkw7 : 0 < w7.heap.size := by have := HBw7.out.size; omega
    go_wp2_with fail
    refine hK.out _ _ HBw7.out (fun hHeld => ?_)
    clear hK K
    try simp only [Act.put, List.getElem_toArray, List.getElem_cons_succ, List.getElem_cons_zero, List.setIfInBounds_toArray, List.set_cons_zero, List.set_cons_succ]
    refine wpAnyH_ready (rs := [11]) (by kernel_rfl) (by simp) (AllReadyH.cons (o := _) rfl (fun K hK => ?_) AllReadyH.nil)
    go_simp
    with_reducible refine (HC2.out _).mono ?_
    rintro e w8 ⟨rfl, hb⟩
    have HBw8 : Hid (Below w5.heap.size w5 w8) := HBw7.out.trans (hb.mono HBw7.out.size)
    clear hb
    have HKw8 := Lib.hid (HK5.out.below HBw8.out hk5)
    have hkw8 : 0 < w8.heap.size := by have := HBw8.out.size; omega
    go_wp2_with fail
    refine hK.out _ _ HBw8.out (fun hHeld => ?_)
    clear hK K
    try simp only [Act.put, List.getElem_toArray, List.getElem_cons_succ, List.getElem_cons_zero, List.setIfInBounds_toArray, List.set_cons_zero, List.set_cons_succ]
    refine wpAnyH_take (i := 12) (oi := _) (v := ?v12n19) rfl (by kernel_rfl) (by kernel_rfl) (by kernel_rfl) (fun _ _ _ h => h) (Or.inl ⟨by rfl, ?hy12n19⟩) (by assumption) ?rest12n19
    case hy12n19 =>
      intro w' hSw
      refine exec_eqlV (x := .tmp 36) (y := .tmp 41) (eqlH HPP.out w') ?_ ?_ ?_ <;> rfl
    try simp only [Act.put, List.getElem_toArray, List.getElem_cons_succ, List.getElem_cons_zero, List.setIfInBounds_toArray, List.set_cons_zero, List.set_cons_succ]
    refine wpAnyH_take (i := 13) (oi := _) (v := ?v13n20) rfl (by kernel_rfl) (by kernel_rfl) (by kernel_rfl) (fun _ _ _ h => h) (Or.inl ⟨by rfl, ?hy13n20⟩) (by assumption) ?rest13n20
    case hy13n20 =>
      intro w' hSw
      go_simp
      try with_reducible rfl
    try simp only [Act.put, List.getElem_toArray, List.getElem_cons_succ, List.getElem_cons_zero, List.setIfInBounds_toArray, List.set_cons_zero, List.set_cons_succ]
    refine wpAnyH_take (i := 14) (oi := _) (v := ?v14n21) rfl (by kernel_rfl) (by kernel_rfl) (by kernel_rfl) (fun _ _ _ h => h) (Or.inl ⟨by rfl, ?hy14n21⟩) (by assumption) ?rest14n21
    case hy14n21 =>
      intro w' hSw
      go_simp
      try with_reducible rfl
    try simp only [Act.put, List.getElem_toArray, List.getElem_cons_succ, List.getElem_cons_zero, List.setIfInBounds_toArray, List.set_cons_zero, List.set_cons_succ]
    refine wpAnyH_take (i := 15) (oi := _) (v := ?v15n22) rfl (by kernel_rfl) (by kernel_rfl) (by kernel_rfl) (fun _ _ _ h => h) (Or.inl ⟨by rfl, ?hy15n22⟩) (by assumption) ?rest15n22
    case hy15n22 =>
      intro w' hSw
      go_simp
      try with_reducible rfl
    try simp only [Act.put, List.getElem_toArray, List.getElem_cons_succ, List.getElem_cons_zero, List.setIfInBounds_toArray, List.set_cons_zero, List.set_cons_succ]
    refine' wpAnyH_take (i := 16) (oi := _) (v := _) rfl (by kernel_rfl) (by kernel_rfl) (by kernel_rfl) (fun _ _ _ h => h) (yieldsIf_load_mid (by rfl) _ _ rfl _ _ rfl _ _ ?hS16n23 Tryd.underlying23 rfl HIX.out) (by assumption) ?rest16n23
    case hS16n23 =>
      intro w' hSw
      exact range_belowG HRX.out hSw hsx
    try simp only [Act.put, List.getElem_toArray, List.getElem_cons_succ, List.getElem_cons_zero, List.setIfInBounds_toArray, List.set_cons_zero, List.set_cons_succ]
    refine wpAnyH_take (i := 17) (oi := _) (v := ?v17n24) rfl (by kernel_rfl) (by kernel_rfl) (by kernel_rfl) (fun _ _ _ h => h) (Or.inl ⟨by rfl, ?hy17n24⟩) (by assumption) ?rest17n24
    case hy17n24 =>
      intro w' hSw
      go_simp
      try with_reducible rfl
    try simp only [Act.put, List.getElem_toArray, List.getElem_cons_succ, List.getElem_cons_zero, List.setIfInBounds_toArray, List.set_cons_zero, List.set_cons_succ]
    refine wpAnyH_take (i := 18) (oi := _) (v := ?v18n25) rfl (by kernel_rfl) (by kernel_rfl) (by kernel_rfl) (fun _ _ _ h => h) (Or.inl ⟨by rfl, ?hy18n25⟩) (by assumption) ?rest18n25
    case hy18n25 =>
      intro w' hSw
      have hq : w'.cell? ⟨w.heap.size, 16, none⟩ = some (.int .i64 leaf) := (hSw.cell (p := ⟨w.heap.size, 16, none⟩) (by show w.heap.size < _; exact hsx)).trans HN16.out
      go_simp
      try with_reducible rfl
    try simp only [Act.put, List.getElem_toArray, List.getElem_cons_succ, List.getElem_cons_zero, List.setIfInBounds_toArray, List.set_cons_zero, List.set_cons_succ]
    refine' wpAnyH_take (i := 19) (oi := _) (v := _) rfl (by kernel_rfl) (by kernel_rfl) (by kernel_rfl) (fun _ _ _ h => h) (yieldsIf_load_mid (by rfl) _ _ rfl _ _ rfl _ _ ?hS19n26 Tryd.underlying37 rfl HID.out) (by assumption) ?rest19n26
    case hS19n26 =>
      intro w' hSw
      exact range_belowG HRD5.out hSw hsd
    try simp only [Act.put, List.getElem_toArray, List.getElem_cons_succ, List.getElem_cons_zero, List.setIfInBounds_toArray, List.set_cons_zero, List.set_cons_succ]
    refine wpAnyH_take (i := 21) (oi := _) (v := ?v21n27) rfl (by kernel_rfl) (by kernel_rfl) (by kernel_rfl) (fun _ _ _ h => h) (Or.inl ⟨by rfl, ?hy21n27⟩) (by assumption) ?rest21n27
    case hy21n27 =>
      intro w' hSw
      go_simp
      try with_reducible rfl
    try simp only [Act.put, List.getElem_toArray, List.getElem_cons_succ, List.getElem_cons_zero, List.setIfInBounds_toArray, List.set_cons_zero, List.set_cons_succ]
    refine' wpAnyH_take (i := 22) (oi := _) (v := _) rfl (by kernel_rfl) (by kernel_rfl) (by kernel_rfl) (fun _ _ _ h => h) (yieldsIf_load_mid (by rfl) _ _ rfl _ _ rfl _ _ ?hS22n28 Tryd.underlying23 rfl HIX.out) (by assumption) ?rest22n28
    case hS22n28 =>
      intro w' hSw
      exact range_belowG HRX.out hSw hsx
    try simp only [Act.put, List.getElem_toArray, List.getElem_cons_succ, List.getElem_cons_zero, List.setIfInBounds_toArray, List.set_cons_zero, List.set_cons_succ]
    refine wpAnyH_take (i := 23) (oi := _) (v := ?v23n29) rfl (by kernel_rfl) (by kernel_rfl) (by kernel_rfl) (fun _ _ _ h => h) (Or.inl ⟨by rfl, ?hy23n29⟩) (by assumption) ?rest23n29
    case hy23n29 =>
      intro w' hSw
      go_simp
      try with_reducible rfl
    try simp only [Act.put, List.getElem_toArray, List.getElem_cons_succ, List.getElem_cons_zero, List.setIfInBounds_toArray, List.set_cons_zero, List.set_cons_succ]
    refine wpAnyH_take (i := 24) (oi := _) (v := ?v24n30) rfl (by kernel_rfl) (by kernel_rfl) (by kernel_rfl) (fun _ _ _ h => h) (Or.inl ⟨by rfl, ?hy24n30⟩) (by assumption) ?rest24n30
    case hy24n30 =>
      intro w' hSw
      have hq : w'.cell? ⟨w.heap.size, 16, none⟩ = some (.int .i64 leaf) := (hSw.cell (p := ⟨w.heap.size, 16, none⟩) (by show w.heap.size < _; exact hsx)).trans HN16.out
      go_simp
      try with_reducible rfl
    try simp only [Act.put, List.getElem_toArray, List.getElem_cons_succ, List.getElem_cons_zero, List.setIfInBounds_toArray, List.set_cons_zero, List.set_cons_succ]
    refine' wpAnyH_take (i := 25) (oi := _) (v := _) rfl (by kernel_rfl) (by kernel_rfl) (by kernel_rfl) (fun _ _ _ h => h) (yieldsIf_load_mid (by rfl) _ _ rfl _ _ rfl _ _ ?hS25n31 Tryd.underlying37 rfl HID.out) (by assumption) ?rest25n31
    case hS25n31 =>
      intro w' hSw
      exact range_belowG HRD5.out hSw hsd
    try simp only [Act.put, List.getElem_toArray, List.getElem_cons_succ, List.getElem_cons_zero, List.setIfInBounds_toArray, List.set_cons_zero, List.set_cons_succ]
    refine wpAnyH_ready (rs := [20]) (by kernel_rfl) (by simp) (AllReadyH.cons (o := _) rfl (fun K hK => ?_) AllReadyH.nil)
    go_simp
    with_reducible refine (HC3.out _ HKw8.out hkw8).mono ?_
    rintro e w9 ⟨sp1, cap1, rfl, hown, hb⟩
    have HO9 := Lib.hid hown
    clear hown
    have HBw9 : Hid (Below w5.heap.size w5 w9) := HBw8.out.trans (hb.mono HBw8.out.size)
    clear hb
    have HKw9 := Lib.hid (HK5.out.below HBw9.out hk5)
    have hkw9 : 0 < w9.heap.size := by have := HBw9.out.size; omega
    go_wp2_with fail
    refine hK.out _ _ HBw9.out (fun hHeld => ?_)
    clear hK K
    try simp only [Act.put, List.getElem_toArray, List.getElem_cons_succ, List.getElem_cons_zero, List.setIfInBounds_toArray, List.set_cons_zero, List.set_cons_succ]
    refine wpAnyH_ready (rs := [26]) (by kernel_rfl) (by simp) (AllReadyH.cons (o := _) rfl (fun K hK => ?_) AllReadyH.nil)
    go_simp
    with_reducible refine (HC4.out _).mono ?_
    rintro e w10 ⟨sp2, cap2, rfl, hown, hb⟩
    have HV9 : Hid (HvsIn w10 w10.heap.size sp1 68 cap1 S) := (HO9.out.below hb).hvs HSL.out
    have HV10 : Hid (HvsIn w10 w10.heap.size sp2 68 cap2 S) := hown.hvs HSL.out
    clear hown
    have HBw10 : Hid (Below w5.heap.size w5 w10) := HBw9.out.trans (hb.mono HBw9.out.size)
    clear hb
    have HKw10 := Lib.hid (HK5.out.below HBw10.out hk5)
    have hkw10 : 0 < w10.heap.size := by have := HBw10.out.size; omega
    go_wp2_with fail
    refine hK.out _ _ HBw10.out (fun hHeld => ?_)
    clear hK K
    try simp only [Act.put, List.getElem_toArray, List.getElem_cons_succ, List.getElem_cons_zero, List.setIfInBounds_toArray, List.set_cons_zero, List.set_cons_succ]
    refine wpAnyH_ready (rs := [27]) (by kernel_rfl) (by simp) (AllReadyH.cons (o := _) rfl (fun K hK => ?_) AllReadyH.nil)
    go_simp
    with_reducible refine (sameH_any sp1 sp2 68 cap1 cap2 S _ HV9.out HV10.out (by omega)).mono ?_
    rintro e w11 ⟨rfl, hb⟩
    have HBw11 : Hid (Below w5.heap.size w5 w11) := HBw10.out.trans (hb.mono HBw10.out.size)
    clear hb
    have HKw11 := Lib.hid (HK5.out.below HBw11.out hk5)
    have hkw11 : 0 < w11.heap.size := by have := HBw11.out.size; omega
    go_wp2_with fail
    refine hK.out _ _ HBw11.out (fun hHeld => ?_)
    clear hK K
    try simp only [Act.put, List.getElem_toArray, List.getElem_cons_succ, List.getElem_cons_zero, List.setIfInBounds_toArray, List.set_cons_zero, List.set_cons_succ]
    refine wpAnyH_take (i := 28) (oi := _) (v := ?v28n32) rfl (by kernel_rfl) (by kernel_rfl) (by kernel_rfl) (fun _ _ _ h => h) (Or.inl ⟨by rfl, ?hy28n32⟩) (by assumption) ?rest28n32
    case hy28n32 =>
      intro w' hSw
      go_simp
      try with_reducible rfl
    try simp only [Act.put, List.getElem_toArray, List.getElem_cons_succ, List.getElem_cons_zero, List.setIfInBounds_toArray, List.set_cons_zero, List.set_cons_succ]
    refine wpAnyH_take (i := 29) (oi := _) (v := ?v29n33) rfl (by kernel_rfl) (by kernel_rfl) (by kernel_rfl) (fun _ _ _ h => h) (Or.inl ⟨by rfl, ?hy29n33⟩) (by assumption) ?rest29n33
    case hy29n33 =>
      intro w' hSw
      go_simp
      try with_reducible rfl
    try simp only [Act.put, List.getElem_toArray, List.getElem_cons_succ, List.getElem_cons_zero, List.setIfInBounds_toArray, List.set_cons_zero, List.set_cons_succ]
    refine' wpAnyH_take (i := 30) (oi := _) (v := _) rfl (by kernel_rfl) (by kernel_rfl) (by kernel_rfl) (fun _ _ _ h => h) (yieldsIf_load_mid (by rfl) _ _ rfl _ _ rfl _ _ ?hS30n34 Tryd.underlying23 rfl HIA.out) (by assumption) ?rest30n34
    case hS30n34 =>
      intro w' hSw
      exact range_belowG HRP.out hSw hsp
    try simp only [Act.put, List.getElem_toArray, List.getElem_cons_succ, List.getElem_cons_zero, List.setIfInBounds_toArray, List.set_cons_zero, List.set_cons_succ]
    refine' wpAnyH_take (i := 31) (oi := _) (v := _) rfl (by kernel_rfl) (by kernel_rfl) (by kernel_rfl) (fun _ _ _ h => h) (yieldsIf_load_mid (by rfl) _ _ rfl _ _ rfl _ _ ?hS31n35 Tryd.underlying23 rfl HIA.out) (by assumption) ?rest31n35
    case hS31n35 =>
      intro w' hSw
      exact range_belowG HRQ.out hSw hs5
    try simp only [Act.put, List.getElem_toArray, List.getElem_cons_succ, List.getElem_cons_zero, List.setIfInBounds_toArray, List.set_cons_zero, List.set_cons_succ]
    refine wpAnyH_take (i := 32) (oi := _) (v := ?v32n36) rfl (by kernel_rfl) (by kernel_rfl) (by kernel_rfl) (fun _ _ _ h => h) (Or.inl ⟨by rfl, ?hy32n36⟩) (by assumption) ?rest32n36
    case hy32n36 =>
      intro w' hSw
      refine exec_eqlV (x := .tmp 60) (y := .tmp 61) (eqlHn HA16.out w') ?_ ?_ ?_ <;> rfl
    try simp only [Act.put, List.getElem_toArray, List.getElem_cons_succ, List.getElem_cons_zero, List.setIfInBounds_toArray, List.set_cons_zero, List.set_cons_succ]
    refine wpAnyH_take (i := 33) (oi := _) (v := ?v33n37) rfl (by kernel_rfl) (by kernel_rfl) (by kernel_rfl) (fun _ _ _ h => h) (Or.inl ⟨by rfl, ?hy33n37⟩) (by assumption) ?rest33n37
    case hy33n37 =>
      intro w' hSw
      go_simp
      try with_reducible rfl
    try simp only [Act.put, List.getElem_toArray, List.getElem_cons_succ, List.getElem_cons_zero, List.setIfInBounds_toArray, List.set_cons_zero, List.set_cons_succ]
    refine wpAnyH_take (i := 34) (oi := _) (v := ?v34n38) rfl (by kernel_rfl) (by kernel_rfl) (by kernel_rfl) (fun _ _ _ h => h) (Or.inl ⟨by rfl, ?hy34n38⟩) (by assumption) ?rest34n38
    case hy34n38 =>
      intro w' hSw
      go_simp
      try with_reducible rfl
    try simp only [Act.put, List.getElem_toArray, List.getElem_cons_succ, List.getElem_cons_zero, List.setIfInBounds_toArray, List.set_cons_zero, List.set_cons_succ]
    refine wpAnyH_take (i := 35) (oi := _) (v := ?v35n39) rfl (by kernel_rfl) (by kernel_rfl) (by kernel_rfl) (fun _ _ _ h => h) (Or.inl ⟨by rfl, ?hy35n39⟩) (by assumption) ?rest35n39
    case hy35n39 =>
      intro w' hSw
      go_simp
      try with_reducible rfl
    try simp only [Act.put, List.getElem_toArray, List.getElem_cons_succ, List.getElem_cons_zero, List.setIfInBounds_toArray, List.set_cons_zero, List.set_cons_succ]
    refine wpAnyH_take (i := 36) (oi := _) (v := ?v36n40) rfl (by kernel_rfl) (by kernel_rfl) (by kernel_rfl) (fun _ _ _ h => h) (Or.inl ⟨by rfl, ?hy36n40⟩) (by assumption) ?rest36n40
    case hy36n40 =>
      intro w' hSw
      go_simp
      try with_reducible rfl
    try simp only [Act.put, List.getElem_toArray, List.getElem_cons_succ, List.getElem_cons_zero, List.setIfInBounds_toArray, List.set_cons_zero, List.set_cons_succ]
    refine wpAnyH_take (i := 37) (oi := _) (v := ?v37n41) rfl (by kernel_rfl) (by kernel_rfl) (by kernel_rfl) (fun _ _ _ h => h) (Or.inl ⟨by rfl, ?hy37n41⟩) (by assumption) ?rest37n41
    case hy37n41 =>
      intro w' hSw
      go_simp
      try with_reducible rfl
    try simp only [Act.put, List.getElem_toArray, List.getElem_cons_succ, List.getElem_cons_zero, List.setIfInBounds_toArray, List.set_cons_zero, List.set_cons_succ]
    refine wpAnyH_take (i := 38) (oi := _) (v := ?v38n42) rfl (by kernel_rfl) (by kernel_rfl) (by kernel_rfl) (fun _ _ _ h => h) (Or.inl ⟨by rfl, ?hy38n42⟩) (by assumption) ?rest38n42
    case hy38n42 =>
      intro w' hSw
      go_simp
      try with_reducible rfl
    try simp only [Act.put, List.getElem_toArray, List.getElem_cons_succ, List.getElem_cons_zero, List.setIfInBounds_toArray, List.set_cons_zero, List.set_cons_succ]
    refine wpAnyH_take (i := 39) (oi := _) (v := ?v39n43) rfl (by kernel_rfl) (by kernel_rfl) (by kernel_rfl) (fun _ _ _ h => h) (Or.inl ⟨by rfl, ?hy39n43⟩) (by assumption) ?rest39n43
    case hy39n43 =>
      intro w' hSw
      go_simp
      try with_reducible rfl
    try simp only [Act.put, List.getElem_toArray, List.getElem_cons_succ, List.getElem_cons_zero, List.setIfInBounds_toArray, List.set_cons_zero, List.set_cons_succ]
    refine wpAnyH_done (by kernel_rfl) ?_ _
    go_wp2_with fail
    go_ret
    exact ⟨rfl, HBW5.out.trans (HBw11.out.mono (by omega))⟩
end Go.Proofs.YtkeieacmboidoaaDoor
