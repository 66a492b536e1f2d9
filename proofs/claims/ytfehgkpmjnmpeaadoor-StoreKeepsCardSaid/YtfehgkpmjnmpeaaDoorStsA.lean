/-
  Stores: the walks of the reference's Less, of ascending and Valid, and of the reference's Valid (lists of at most 1000000 blobs).
-/
import Derived.Test.YtfehgkpmjnmpeaaDoorStoC
import Derived.Test.YtfehgkpmjnmpeaaDoorGk
import Derived.BigQuiet
namespace Go.Proofs.YtfehgkpmjnmpeaaDoor
open Go.RowKit

theorem uptoD_no {l : List Pr} {i K : Nat} {x y : Pr} (hx : l[i]? = some x) (hy : l[i + 1]? = some y) (h : dls x.1 y.1 = false) (hK : i < K) : uptoD l K = false := by
  unfold uptoD
  rw [List.all_eq_false]
  exact ⟨i, List.mem_range.2 hK, by simp [hx, hy, h]⟩
theorem bp_get {l : List Bl} {i : Nat} {x : Bl} (h : l[i]? = some x) : (l.map bp)[i]? = some (bp x) := by rw [List.getElem?_map, h]; rfl
set_option maxRecDepth 100000 in
set_option maxHeartbeats 1000000 in
theorem less_any (a b : List Int) (w : World) (ha : D32 a) (hb : D32 b) :
    Calls Tryd.prog 32 #[.agg (dv a), .agg (dv b)] w fun e w' => e = .returned (.bool (dls a b)) ∧ Below w.heap.size w w' := by
  have HLA := Lib.hid ha; have HLB := Lib.hid hb
  obtain ⟨w0, hw0⟩ : ∃ w0, (w.alloc (.cells (dv a) 32)).alloc (.cells (dv b) 32) = w0 := ⟨_, rfl⟩
  have HB0 := Lib.hid (show Below w.heap.size w w0 by rw [← hw0]; exact ((Below.refl _ _).alloc (Nat.le_refl _) _).alloc (by simp) _)
  have HCB := Lib.hid (show ∀ i x, b[i]? = some x → w0.cell? ⟨w.heap.size + 1, i, none⟩ = some (.int .u8 x) by
    rw [← hw0]; intro i x hx
    have h1 := heap_alloc_new (w.alloc (.cells (dv a) 32)) (.cells (dv b) 32)
    rw [World.size_alloc] at h1
    rw [cell_of_row _ _ i _ _ _ h1]; simp [dv, hx])
  have HCA := Lib.hid (show ∀ i x, a[i]? = some x → w0.cell? ⟨w.heap.size, i, none⟩ = some (.int .u8 x) by
    rw [← hw0]; intro i x hx
    have h1 := heap_alloc_new w (.cells (dv a) 32)
    rw [← Below.heap_alloc (w.alloc (.cells (dv a) 32)) (.cells (dv b) 32) w.heap.size (by simp)] at h1
    rw [cell_of_row _ _ i _ _ _ h1]; simp [dv, hx])
  have HS0 := Lib.hid (show w.heap.size + 1 < w0.heap.size by rw [← hw0]; simp)
  clear ha hb
  go_enter Tryd.func32, Tryd.ntmps32
  go_wp2_with fail
  have hw0' := hw0
  unfold dv at hw0'
  first | rw [hw0] | rw [hw0'] | skip
  have HBB := Lib.hid (show w.heap.size < w0.heap.size ∧ w.heap.size + 1 < w0.heap.size from ⟨by have := HS0.out; omega, HS0.out⟩)
  clear hw0 hw0'
  go_loopw [5] (fun i wr => ∃ k : Nat, k ≤ 32 ∧ i = .int .i64 k ∧ Hid (dls a b = dls (a.drop k) (b.drop k) ∧ Below w0.heap.size w0 wr)) (fun i _ => 32 - (intOf i).toNat)
  case atStart => exact ⟨0, by omega, rfl, rfl, Below.refl _ _⟩
  case round =>
    obtain ⟨k, hk, rfl, H⟩ := hrel
    have HE := Lib.hid H.out.1; have HBE := Lib.hid H.out.2
    clear H
    by_cases hlt : k < 32
    · have hd : decide ((k : Int) < 32) = true := by simp; omega
      have p1 : (0 : Int) ≤ (k : Int) := by omega
      have p2 : (k : Int) < 32 := by omega
      obtain ⟨x, hx⟩ : ∃ x, a[k]? = some x := ⟨a[k]'(by have := HLA.out.1; omega), List.getElem?_eq_getElem _⟩
      obtain ⟨y, hy⟩ : ∃ y, b[k]? = some y := ⟨b[k]'(by have := HLB.out.1; omega), List.getElem?_eq_getElem _⟩
      have x1 : ∀ q, (wr.drewN q).cell? ⟨w.heap.size, k, none⟩ = some (.int .u8 x) := fun q => (HBE.out.cell (p := ⟨w.heap.size, k, none⟩) HBB.out.1).trans (HCA.out k x hx)
      have y1 : ∀ q, (wr.drewN q).cell? ⟨w.heap.size + 1, k, none⟩ = some (.int .u8 y) := fun q => (HBE.out.cell (p := ⟨w.heap.size + 1, k, none⟩) HBB.out.2).trans (HCB.out k y hy)
      have x0 : wr.cell? ⟨w.heap.size, k, none⟩ = some (.int .u8 x) := x1 0
      have y0 : wr.cell? ⟨w.heap.size + 1, k, none⟩ = some (.int .u8 y) := y1 0
      have HST := Lib.hid (dls_step HE.out hx hy)
      have HW : Hid (∀ q, Below w0.heap.size w0 (wr.drewN q)) := fun q => HBE.out.trans (⟨rfl, rfl, rfl, Nat.le_refl _, fun _ _ => rfl⟩)
      clear hx hy
      by_cases he : x = y
      · subst he
        have h1 : (!(x == x)) = false := by simp
        have HN := Lib.hid (HST.out.1 rfl)
        go_wp2_with fail
        go_quiet (fail)
        go_wp2_with fail
        go_roundw
        case rel => exact ⟨k + 1, by omega, by go_num, HN.out, HW.out _⟩
        case measure => simp [intOf]; omega
      · have h1 : (!(x == y)) = true := by simp; exact he
        have h2 : (x == y) = false := by simp; exact he
        have HN := Lib.hid (HST.out.2 he)
        go_wp2_with fail
        go_quiet (fail)
        have HW2 := Lib.hid (HW.out nq)
        have x3 := x1 nq; have y3 := y1 nq
        have x2 : ∀ q, ((wr.drewN nq).drewN q).cell? ⟨w.heap.size, k, none⟩ = some (.int .u8 x) := fun q => x1 0
        have y2 : ∀ q, ((wr.drewN nq).drewN q).cell? ⟨w.heap.size + 1, k, none⟩ = some (.int .u8 y) := fun q => y1 0
        clear x1 y1 x0 y0
        generalize World.drewN wr nq = wq at *
        have HW3 : Hid (∀ q, Below w0.heap.size w0 (wq.drewN q)) := fun q => HW2.out.trans (⟨rfl, rfl, rfl, Nat.le_refl _, fun _ _ => rfl⟩)
        go_wp2_with fail
        go_quiet (fail)
        go_wp2_with fail
        go_ret
        exact ⟨by rw [HN.out]; rfl, HB0.out.trans ((HW3.out _).mono HB0.out.size)⟩
    · obtain rfl : k = 32 := by omega
      have hd : decide (((32 : Nat) : Int) < 32) = false := by simp
      have HN := Lib.hid (show dls a b = false by
        rw [HE.out, List.drop_of_length_le (by rw [HLA.out.1]; exact Nat.le_refl _), List.drop_of_length_le (by rw [HLB.out.1]; exact Nat.le_refl _)]; rfl)
      go_wp2_with fail
      go_ret
      exact ⟨by rw [HN.out]; rfl, HB0.out.trans (HBE.out.mono HB0.out.size)⟩
set_option maxRecDepth 100000 in
set_option maxHeartbeats 1000000 in
theorem ascend_any (sp : Option Addr) (n cap : Nat) (l : List Bl) (w : World) (hl : BlsIn w w.heap.size sp n cap l) (hn : n ≤ 1000000) :
    Calls Tryd.prog 29 #[.slice sp n cap] w fun e w' => e = .returned (.bool (uptoD (l.map bp) (n - 1))) ∧ Below w.heap.size w w' := by
  have HL := Lib.hid hl
  clear hl
  go_enter Tryd.func29, Tryd.ntmps29
  go_wp2_with fail
  go_loopw [3] (fun i wr => ∃ k : Nat, i = .int .i64 k ∧ 1 ≤ k ∧ (k ≤ n ∨ n = 0 ∧ k = 1) ∧ Hid (uptoD (l.map bp) (k - 1) = true ∧ Below w.heap.size w wr)) (fun i _ => n - (intOf i).toNat)
  case atStart => exact ⟨1, rfl, Nat.le_refl _, by omega, rfl, Below.refl _ _⟩
  case round =>
    obtain ⟨k, rfl, hk1, hkn, H⟩ := hrel
    have HU := Lib.hid H.out.1; have HBE := Lib.hid H.out.2
    clear H
    by_cases hlt : k < n
    · have hd : decide ((k : Int) < (n : Int)) = true := by simp; omega
      obtain ⟨b, off, rfl, hbB, hcap, hr⟩ := HL.out.cells (by omega)
      obtain ⟨j, rfl⟩ : ∃ j, k = j + 1 := ⟨k - 1, by omega⟩
      obtain ⟨x, hx⟩ : ∃ x, l[j]? = some x := ⟨l[j]'(by have := HL.out.len; omega), List.getElem?_eq_getElem _⟩
      obtain ⟨y, hy⟩ : ∃ y, l[j + 1]? = some y := ⟨l[j + 1]'(by have := HL.out.len; omega), List.getElem?_eq_getElem _⟩
      have HX := Lib.hid (range_belowG (hr j x hx) HBE.out.drew hbB)
      have HY := Lib.hid (range_belowG (hr (j + 1) y hy) HBE.out.drew hbB)
      have HOX := Lib.hid (HL.out.ok x (List.mem_of_getElem? hx)); have HOY := Lib.hid (HL.out.ok y (List.mem_of_getElem? hy))
      have HIX := Lib.hid (info_b HOX.out); have HIY := Lib.hid (info_b HOY.out)
      have HGX := Lib.hid (bp_get hx); have HGY := Lib.hid (bp_get hy)
      have hCC := fun w' => byDigest_any x y w' HOX.out HOY.out
      have hge := cmpD_ge HOX.out HOY.out
      have HSU := Lib.hid (uptoD_succ _ j HGX.out HGY.out)
      clear hr hx hy
      obtain ⟨cc, hcc⟩ : ∃ cc, cmpD x.d y.d = cc := ⟨_, rfl⟩
      rw [hcc] at hge; simp only [hcc] at hCC
      have p1 : (0 : Int) ≤ ((j + 1 : Nat) : Int) := by omega
      have p2 : ((j + 1 : Nat) : Int) < (n : Int) := by omega
      have p3 : ((j + 1 : Nat) : Int) - 1 = (j : Int) := by omega
      have p4 : (j : Int) + 1 - 1 = (j : Int) := by omega
      have p5 : (0 : Int) ≤ (j : Int) := by omega
      have p6 : (j : Int) < (n : Int) := by omega
      have q1 : IntKind.i64.wrap (j : Int) = (j : Int) := IntWalk.i64_in _ (by omega)
      have q3 : (0 : Int) ≤ (j : Int) + 1 := by omega
      have q4 : (j : Int) + 1 < (n : Int) := by omega
      have q2 : IntKind.i64.wrap ((j : Int) + 1) = (j : Int) + 1 := IntWalk.i64_in _ (by omega)
      have HBD := Lib.hid HBE.out.drew
      have HKEEP := Lib.hid (fun (w' : World) (hb : Below wr.heap.size wr w') => And.intro (range_belowG (w' := w') HX.out (B := wr.heap.size) (by exact ⟨hb.os, hb.tape, hb.output, hb.size, hb.block⟩) (Nat.lt_of_lt_of_le hbB HBE.out.size)) (range_belowG (w' := w') HY.out (B := wr.heap.size) (by exact ⟨hb.os, hb.tape, hb.output, hb.size, hb.block⟩) (Nat.lt_of_lt_of_le hbB HBE.out.size)))
      cases hdl : dls x.d y.d
      · have hge' : decide (cc ≥ 0) = true := by rw [hge, hdl]; rfl
        have hge2 : decide (0 ≤ cc) = true := hge'
        clear hge
        have HN := Lib.hid (show uptoD (l.map bp) (n - 1) = false from uptoD_no HGX.out HGY.out hdl (by omega))
        go_wp2_with fail
        refine wp_region_held_drew (S := fun w' => w'.rangeAt b (off + j * 33) (blL x) ∧ w'.rangeAt b (off + (j + 1) * 33) (blL y)) (by kernel_rfl) ⟨HX.out, HY.out⟩ (fun hHeld => ?_)
        refine wpAnyH_take (i := 0) (oi := _) (v := ?v0n1) rfl (by kernel_rfl) (by kernel_rfl) (by kernel_rfl) (fun _ _ _ h => h) (Or.inl ⟨by rfl, ?hy0n1⟩) (by assumption) ?rest0n1
        case hy0n1 =>
          intro w' hSw
          go_simp
          try with_reducible rfl
        try simp only [Act.put, List.getElem_toArray, List.getElem_cons_succ, List.getElem_cons_zero, List.setIfInBounds_toArray, List.set_cons_zero, List.set_cons_succ]
        refine wpAnyH_take (i := 1) (oi := _) (v := ?v1n2) rfl (by kernel_rfl) (by kernel_rfl) (by kernel_rfl) (fun _ _ _ h => h) (Or.inl ⟨by rfl, ?hy1n2⟩) (by assumption) ?rest1n2
        case hy1n2 =>
          intro w' hSw
          go_simp
          try with_reducible rfl
        try simp only [Act.put, List.getElem_toArray, List.getElem_cons_succ, List.getElem_cons_zero, List.setIfInBounds_toArray, List.set_cons_zero, List.set_cons_succ]
        refine wpAnyH_take (i := 2) (oi := _) (v := ?v2n3) rfl (by kernel_rfl) (by kernel_rfl) (by kernel_rfl) (fun _ _ _ h => h) (Or.inl ⟨by rfl, ?hy2n3⟩) (by assumption) ?rest2n3
        case hy2n3 =>
          intro w' hSw
          go_simp
          try with_reducible rfl
        try simp only [Act.put, List.getElem_toArray, List.getElem_cons_succ, List.getElem_cons_zero, List.setIfInBounds_toArray, List.set_cons_zero, List.set_cons_succ]
        refine wpAnyH_take (i := 3) (oi := _) (v := ?v3n4) rfl (by kernel_rfl) (by kernel_rfl) (by kernel_rfl) (fun _ _ _ h => h) (Or.inl ⟨by rfl, ?hy3n4⟩) (by assumption) ?rest3n4
        case hy3n4 =>
          intro w' hSw
          go_simp
          try with_reducible rfl
        try simp only [Act.put, List.getElem_toArray, List.getElem_cons_succ, List.getElem_cons_zero, List.setIfInBounds_toArray, List.set_cons_zero, List.set_cons_succ]
        refine' wpAnyH_take (i := 4) (oi := _) (v := _) rfl (by kernel_rfl) (by kernel_rfl) (by kernel_rfl) (fun _ _ _ h => h) (yieldsIf_load_mid (by rfl) _ _ rfl _ _ rfl _ _ ?hS4n5 Tryd.underlying52 rfl HIX.out) (by assumption) ?rest4n5
        case hS4n5 =>
          intro w' hSw
          exact hSw.1
        try simp only [Act.put, List.getElem_toArray, List.getElem_cons_succ, List.getElem_cons_zero, List.setIfInBounds_toArray, List.set_cons_zero, List.set_cons_succ]
        refine wpAnyH_take (i := 5) (oi := _) (v := ?v5n6) rfl (by kernel_rfl) (by kernel_rfl) (by kernel_rfl) (fun _ _ _ h => h) (Or.inl ⟨by rfl, ?hy5n6⟩) (by assumption) ?rest5n6
        case hy5n6 =>
          intro w' hSw
          go_simp
          try with_reducible rfl
        try simp only [Act.put, List.getElem_toArray, List.getElem_cons_succ, List.getElem_cons_zero, List.setIfInBounds_toArray, List.set_cons_zero, List.set_cons_succ]
        refine wpAnyH_take (i := 6) (oi := _) (v := ?v6n7) rfl (by kernel_rfl) (by kernel_rfl) (by kernel_rfl) (fun _ _ _ h => h) (Or.inl ⟨by rfl, ?hy6n7⟩) (by assumption) ?rest6n7
        case hy6n7 =>
          intro w' hSw
          go_simp
          try with_reducible rfl
        try simp only [Act.put, List.getElem_toArray, List.getElem_cons_succ, List.getElem_cons_zero, List.setIfInBounds_toArray, List.set_cons_zero, List.set_cons_succ]
        refine wpAnyH_take (i := 7) (oi := _) (v := ?v7n8) rfl (by kernel_rfl) (by kernel_rfl) (by kernel_rfl) (fun _ _ _ h => h) (Or.inl ⟨by rfl, ?hy7n8⟩) (by assumption) ?rest7n8
        case hy7n8 =>
          intro w' hSw
          go_simp
          try with_reducible rfl
        try simp only [Act.put, List.getElem_toArray, List.getElem_cons_succ, List.getElem_cons_zero, List.setIfInBounds_toArray, List.set_cons_zero, List.set_cons_succ]
        refine' wpAnyH_take (i := 8) (oi := _) (v := _) rfl (by kernel_rfl) (by kernel_rfl) (by kernel_rfl) (fun _ _ _ h => h) (yieldsIf_load_mid (by rfl) _ _ rfl _ _ rfl _ _ ?hS8n9 Tryd.underlying52 rfl HIY.out) (by assumption) ?rest8n9
        case hS8n9 =>
          intro w' hSw
          exact hSw.2
        try simp only [Act.put, List.getElem_toArray, List.getElem_cons_succ, List.getElem_cons_zero, List.setIfInBounds_toArray, List.set_cons_zero, List.set_cons_succ]
        refine wpAnyH_ready (rs := [9]) (by kernel_rfl) (by simp) (AllReadyH.cons (o := _) rfl (fun K hK => ?_) AllReadyH.nil)
        go_simp
        with_reducible refine (hCC _).mono ?_
        rintro e w3 ⟨rfl, hb3⟩
        have HB9 := Lib.hid (HBE.out.trans ((((Below.refl _ wr).drew).trans hb3).mono HBE.out.size))
        go_wp2_with fail
        refine hK.out _ _ (HKEEP.out _ (((Below.refl _ wr).drew).trans hb3)) (fun hHeld => ?_)
        clear hK K
        try simp only [Act.put, List.getElem_toArray, List.getElem_cons_succ, List.getElem_cons_zero, List.setIfInBounds_toArray, List.set_cons_zero, List.set_cons_succ]
        refine wpAnyH_take (i := 10) (oi := _) (v := ?v10n10) rfl (by kernel_rfl) (by kernel_rfl) (by kernel_rfl) (fun _ _ _ h => h) (Or.inl ⟨by rfl, ?hy10n10⟩) (by assumption) ?rest10n10
        case hy10n10 =>
          intro w' hSw
          go_simp
          try with_reducible rfl
        try simp only [Act.put, List.getElem_toArray, List.getElem_cons_succ, List.getElem_cons_zero, List.setIfInBounds_toArray, List.set_cons_zero, List.set_cons_succ]
        refine wpAnyH_done (by kernel_rfl) ?_ _
        clear hHeld
        go_wp2_with fail
        go_ret
        exact ⟨by rw [HN.out]; rfl, HB9.out⟩
      · have hge' : decide (cc ≥ 0) = false := by rw [hge, hdl]; rfl
        have hge2 : decide (0 ≤ cc) = false := hge'
        clear hge
        have HN := Lib.hid (show uptoD (l.map bp) (j + 1) = true by rw [HSU.out]; have := HU.out; rw [Nat.add_sub_cancel] at this; rw [this]; exact hdl)
        go_wp2_with fail
        refine wp_region_held_drew (S := fun w' => w'.rangeAt b (off + j * 33) (blL x) ∧ w'.rangeAt b (off + (j + 1) * 33) (blL y)) (by kernel_rfl) ⟨HX.out, HY.out⟩ (fun hHeld => ?_)
        refine wpAnyH_take (i := 0) (oi := _) (v := ?v0n11) rfl (by kernel_rfl) (by kernel_rfl) (by kernel_rfl) (fun _ _ _ h => h) (Or.inl ⟨by rfl, ?hy0n11⟩) (by assumption) ?rest0n11
        case hy0n11 =>
          intro w' hSw
          go_simp
          try with_reducible rfl
        try simp only [Act.put, List.getElem_toArray, List.getElem_cons_succ, List.getElem_cons_zero, List.setIfInBounds_toArray, List.set_cons_zero, List.set_cons_succ]
        refine wpAnyH_take (i := 1) (oi := _) (v := ?v1n12) rfl (by kernel_rfl) (by kernel_rfl) (by kernel_rfl) (fun _ _ _ h => h) (Or.inl ⟨by rfl, ?hy1n12⟩) (by assumption) ?rest1n12
        case hy1n12 =>
          intro w' hSw
          go_simp
          try with_reducible rfl
        try simp only [Act.put, List.getElem_toArray, List.getElem_cons_succ, List.getElem_cons_zero, List.setIfInBounds_toArray, List.set_cons_zero, List.set_cons_succ]
        refine wpAnyH_take (i := 2) (oi := _) (v := ?v2n13) rfl (by kernel_rfl) (by kernel_rfl) (by kernel_rfl) (fun _ _ _ h => h) (Or.inl ⟨by rfl, ?hy2n13⟩) (by assumption) ?rest2n13
        case hy2n13 =>
          intro w' hSw
          go_simp
          try with_reducible rfl
        try simp only [Act.put, List.getElem_toArray, List.getElem_cons_succ, List.getElem_cons_zero, List.setIfInBounds_toArray, List.set_cons_zero, List.set_cons_succ]
        refine wpAnyH_take (i := 3) (oi := _) (v := ?v3n14) rfl (by kernel_rfl) (by kernel_rfl) (by kernel_rfl) (fun _ _ _ h => h) (Or.inl ⟨by rfl, ?hy3n14⟩) (by assumption) ?rest3n14
        case hy3n14 =>
          intro w' hSw
          go_simp
          try with_reducible rfl
        try simp only [Act.put, List.getElem_toArray, List.getElem_cons_succ, List.getElem_cons_zero, List.setIfInBounds_toArray, List.set_cons_zero, List.set_cons_succ]
        refine' wpAnyH_take (i := 4) (oi := _) (v := _) rfl (by kernel_rfl) (by kernel_rfl) (by kernel_rfl) (fun _ _ _ h => h) (yieldsIf_load_mid (by rfl) _ _ rfl _ _ rfl _ _ ?hS4n15 Tryd.underlying52 rfl HIX.out) (by assumption) ?rest4n15
        case hS4n15 =>
          intro w' hSw
          exact hSw.1
        try simp only [Act.put, List.getElem_toArray, List.getElem_cons_succ, List.getElem_cons_zero, List.setIfInBounds_toArray, List.set_cons_zero, List.set_cons_succ]
        refine wpAnyH_take (i := 5) (oi := _) (v := ?v5n16) rfl (by kernel_rfl) (by kernel_rfl) (by kernel_rfl) (fun _ _ _ h => h) (Or.inl ⟨by rfl, ?hy5n16⟩) (by assumption) ?rest5n16
        case hy5n16 =>
          intro w' hSw
          go_simp
          try with_reducible rfl
        try simp only [Act.put, List.getElem_toArray, List.getElem_cons_succ, List.getElem_cons_zero, List.setIfInBounds_toArray, List.set_cons_zero, List.set_cons_succ]
        refine wpAnyH_take (i := 6) (oi := _) (v := ?v6n17) rfl (by kernel_rfl) (by kernel_rfl) (by kernel_rfl) (fun _ _ _ h => h) (Or.inl ⟨by rfl, ?hy6n17⟩) (by assumption) ?rest6n17
        case hy6n17 =>
          intro w' hSw
          go_simp
          try with_reducible rfl
        try simp only [Act.put, List.getElem_toArray, List.getElem_cons_succ, List.getElem_cons_zero, List.setIfInBounds_toArray, List.set_cons_zero, List.set_cons_succ]
        refine wpAnyH_take (i := 7) (oi := _) (v := ?v7n18) rfl (by kernel_rfl) (by kernel_rfl) (by kernel_rfl) (fun _ _ _ h => h) (Or.inl ⟨by rfl, ?hy7n18⟩) (by assumption) ?rest7n18
        case hy7n18 =>
          intro w' hSw
          go_simp
          try with_reducible rfl
        try simp only [Act.put, List.getElem_toArray, List.getElem_cons_succ, List.getElem_cons_zero, List.setIfInBounds_toArray, List.set_cons_zero, List.set_cons_succ]
        refine' wpAnyH_take (i := 8) (oi := _) (v := _) rfl (by kernel_rfl) (by kernel_rfl) (by kernel_rfl) (fun _ _ _ h => h) (yieldsIf_load_mid (by rfl) _ _ rfl _ _ rfl _ _ ?hS8n19 Tryd.underlying52 rfl HIY.out) (by assumption) ?rest8n19
        case hS8n19 =>
          intro w' hSw
          exact hSw.2
        try simp only [Act.put, List.getElem_toArray, List.getElem_cons_succ, List.getElem_cons_zero, List.setIfInBounds_toArray, List.set_cons_zero, List.set_cons_succ]
        refine wpAnyH_ready (rs := [9]) (by kernel_rfl) (by simp) (AllReadyH.cons (o := _) rfl (fun K hK => ?_) AllReadyH.nil)
        go_simp
        with_reducible refine (hCC _).mono ?_
        rintro e w3 ⟨rfl, hb3⟩
        have HB9 := Lib.hid (HBE.out.trans ((((Below.refl _ wr).drew).trans hb3).mono HBE.out.size))
        go_wp2_with fail
        refine hK.out _ _ (HKEEP.out _ (((Below.refl _ wr).drew).trans hb3)) (fun hHeld => ?_)
        clear hK K
        try simp only [Act.put, List.getElem_toArray, List.getElem_cons_succ, List.getElem_cons_zero, List.setIfInBounds_toArray, List.set_cons_zero, List.set_cons_succ]
        refine wpAnyH_take (i := 10) (oi := _) (v := ?v10n20) rfl (by kernel_rfl) (by kernel_rfl) (by kernel_rfl) (fun _ _ _ h => h) (Or.inl ⟨by rfl, ?hy10n20⟩) (by assumption) ?rest10n20
        case hy10n20 =>
          intro w' hSw
          go_simp
          try with_reducible rfl
        try simp only [Act.put, List.getElem_toArray, List.getElem_cons_succ, List.getElem_cons_zero, List.setIfInBounds_toArray, List.set_cons_zero, List.set_cons_succ]
        refine wpAnyH_done (by kernel_rfl) ?_ _
        clear hHeld
        go_wp2_with fail
        go_roundw
        case rel => exact ⟨j + 1 + 1, by go_num, by omega, by omega, by rw [Nat.add_sub_cancel]; exact HN.out, HB9.out⟩
        case measure => simp [intOf]; omega
    · have hd : decide ((k : Int) < (n : Int)) = false := by simp; omega
      have HN := Lib.hid (show uptoD (l.map bp) (n - 1) = true by rw [show n - 1 = k - 1 by omega]; exact HU.out)
      go_wp2_with fail
      go_ret
      exact ⟨by rw [HN.out]; rfl, HBE.out⟩
set_option maxRecDepth 100000 in
set_option maxHeartbeats 1000000 in
theorem valid_bls (sp : Option Addr) (n cap : Nat) (l : List Bl) (w : World) (hl : BlsIn w w.heap.size sp n cap l) (hn : n ≤ 1000000) :
    Calls Tryd.prog 10 #[.slice sp n cap] w fun e w' => e = .returned (.bool (vldP (l.map bp))) ∧ Below w.heap.size w w' := by
  have HL := Lib.hid hl
  have HV : Hid (vldP (l.map bp) = (decide (n ≤ 256) && uptoD (l.map bp) (n - 1) && !l.any bigB)) := by
    show _ = _
    unfold vldP
    rw [List.length_map, hl.len]
    congr 1
    rw [Bool.eq_iff_iff]
    simp only [List.all_eq_true, List.mem_map, forall_exists_index, and_imp, forall_apply_eq_imp_iff₂, decide_eq_true_eq, Bool.not_eq_true', List.any_eq_false, bigB, bp]
    constructor
    · intro h x hx; have := h x hx; rw [(hl.dat x hx).src.len] at this; simp; omega
    · intro h x hx; have := h x hx; rw [(hl.dat x hx).src.len]; simp at this; omega
  clear hl
  rw [HV.out]
  have HA := Lib.hid (fun w1 h => ascend_any sp n cap l w1 h hn)
  have HC := Lib.hid (fun w1 h => containsB_any sp n cap l w1 h hn)
  generalize uptoD (l.map bp) (n - 1) = u at *
  by_cases h256 : n ≤ 256
  · have hd : decide ((n : Int) ≤ 256) = true := by simp; omega
    rw [decide_eq_true h256]
    cases u
    · go_enter Tryd.func10, Tryd.ntmps10
      go_wp2_with fail
      refine (HA.out _ HL.out).mono ?_
      rintro e w1 ⟨rfl, hb1⟩
      have HB1 := Lib.hid hb1; clear hb1
      go_wp2_with fail
      go_ret
      exact ⟨rfl, HB1.out⟩
    · go_enter Tryd.func10, Tryd.ntmps10
      go_wp2_with fail
      refine (HA.out _ HL.out).mono ?_
      rintro e w1 ⟨rfl, hb1⟩
      have HB1 := Lib.hid hb1
      have HL1 := Lib.hid (HL.out.up hb1 (Nat.le_refl _)); clear hb1
      go_wp2_with fail
      refine (HC.out _ HL1.out).mono ?_
      rintro e w2 ⟨rfl, hb2⟩
      have HB2 := Lib.hid (HB1.out.trans (hb2.mono HB1.out.size)); clear hb2
      go_wp2_with fail
      go_ret
      exact ⟨rfl, HB2.out⟩
  · have hd : decide ((n : Int) ≤ 256) = false := by simp; omega
    rw [decide_eq_false h256]
    go_enter Tryd.func10, Tryd.ntmps10
    go_wp2_with fail
    go_ret
    exact ⟨rfl, Below.refl _ _⟩
end Go.Proofs.YtfehgkpmjnmpeaaDoor
