/-
  The walk of the reference's Apply (conditions: digests of 32 bytes, at most 100000 elements; a nil slice has no room).
-/
import Derived.Test.YtjeiiojchlfpoaaDoorSnR
namespace Go.Proofs.YtjeiiojchlfpoaaDoor
open Go.RowKit

def finR : Option (List En) → Except Int (List En)
  | none => .error 9
  | some m => if 64 < m.length then .error 3 else .ok m
def sRApply (s : List En) (l : List Cg) : Except Int (List En) := if vldE s && vldC l then finR (rapp s l) else .error 1
theorem finA_eq (o : Option (List Cg)) : finA o = finR (match o with | none => none | some m => if m.any needB then none else some (m.map toE)) := by
  cases o with
  | none => rfl
  | some m =>
    rw [finA_some]
    show _ = finR (if m.any needB then none else some (m.map toE))
    split
    · rfl
    · show _ = (if 64 < (m.map toE).length then (.error 3 : Except Int (List En)) else .ok (m.map toE))
      rw [List.length_map]
theorem sRApply_eq (s : List En) (l : List Cg) : sRApply s l = sApply s l := by
  unfold sRApply sApply
  by_cases h : (vldE s && vldC l) = true
  · rw [if_pos h, if_pos h]
    rw [Bool.and_eq_true] at h
    rw [← capp_eq (vldE_parts h.1).2.1 (vldC_parts h.2).2.1 (vldE_parts h.1).2.2 (vldC_parts h.2).2.2, finA_eq]
    rfl
  · rw [if_neg h, if_neg h]
theorem dg?_ok {s : List En} (h : ∀ x ∈ s, OkE x) (p : ByteArray) : D32 (dg? s p) := by
  unfold dg?
  cases e : fe s p with
  | none => exact D32.zed
  | some x => exact h x (fe_some e).1
theorem LookRes.uni {w w' : World} {s : List En} {p : ByteArray} {e : Ending} (h : LookRes w (fe s p) e w') : ∃ c : Bool, e = .returned (.tuple #[.agg ((dg? s p).map (Value.int .u8)).toArray, .bool c]) ∧ Below w.heap.size w w' := by
  unfold dg?
  cases k : fe s p with
  | none => rw [k] at h; exact ⟨false, h⟩
  | some x => rw [k] at h; exact ⟨true, h⟩
theorem FindRes.uni {w w' : World} {l : List Cg} {p : ByteArray} {e : Ending} (hl : ∀ x ∈ l, OkC x) (h : FindRes w (fd l p) e w') : ∃ y : Cg, OkC y ∧ e = .returned (.tuple #[.agg (cgL y).toArray, .bool (fd l p).isSome]) ∧ Below w.heap.size w w' := by
  cases k : fd l p with
  | none => rw [k] at h; exact ⟨⟨⟨#[]⟩, zed, zed⟩, zeroCg_ok, h⟩
  | some x => rw [k] at h; exact ⟨x, hl x (fd_some k).1, h⟩
/-- on the way through a round: a digest in a block of its own -/
structure DpS (w : World) (bx : Nat) (d : List Int) (W : World) : Prop where
  below : Below w.heap.size w W
  box : W.heap[bx]? = some (.cells (d.map (Value.int .u8)).toArray 35 (0, 0))
theorem DpS.lt {w : World} {bx : Nat} {d : List Int} {W : World} (h : DpS w bx d W) : bx < W.heap.size := (Array.getElem?_eq_some_iff.1 h.box).1
theorem DpS.next {w : World} {bx : Nat} {d : List Int} {W W' : World} (h : DpS w bx d W) (hb : Below W.heap.size W W') : DpS w bx d W' :=
  ⟨h.below.trans (hb.mono h.below.size), (hb.block bx h.lt).trans h.box⟩
theorem DpS.row {w : World} {bx : Nat} {d : List Int} {W : World} (h : DpS w bx d W) : W.rangeAt bx 0 (d.map (Value.int .u8)) := range_row (pre := []) (post := []) h.box (by simp) rfl
theorem hA_zero {x : Cg} (h : x.n = zed) : hA x = none := by unfold hA; rw [if_pos h]
theorem hA_new {x : Cg} (h : x.n ≠ zed) : hA x = some ⟨x.p, x.n⟩ := by unfold hA; rw [if_neg h]
theorem fold_step {α β : Type} {f : β → α → β} {l : List α} {i : β} {k : Nat} {x : α} {o : β} (h : (l.take k).foldl f i = o) (hx : l[k]? = some x) : (l.take (k + 1)).foldl f i = f o x := by
  rw [List.take_add_one, hx, List.foldl_append, h]; rfl
set_option maxRecDepth 100000 in
set_option maxHeartbeats 4000000 in
theorem refApply_any (spa : Option Addr) (na ca : Nat) (s : List En) (spb : Option Addr) (nb cb : Nat) (l : List Cg) (w : World) (ha : EnsIn w w.heap.size spa na ca s) (hb : CgsIn w w.heap.size spb nb cb l) (hna : na ≤ 100000) (hnb : nb ≤ 100000) :
    Calls Tryd.prog 37 #[.slice spa na ca, .slice spb nb cb] w (ResE w (sRApply s l)) := by
  have HA := Lib.hid ha; have HBb := Lib.hid hb; clear ha hb
  obtain ⟨c1, hc1⟩ : ∃ c, vldE s = c := ⟨_, rfl⟩
  obtain ⟨c2, hc2⟩ : ∃ c, vldC l = c := ⟨_, rfl⟩
  have hv1 := fun w' (h : EnsIn w' w'.heap.size spa na ca s) => refValid_any spa na ca s w' h (by omega)
  have hv2 := fun w' (h : CgsIn w' w'.heap.size spb nb cb l) => refValidChanges_any spb nb cb l w' h (by omega)
  rw [hc1] at hv1; rw [hc2] at hv2
  have HV1 := Lib.hid hv1; have HV2 := Lib.hid hv2; have HC1 := Lib.hid hc1; have HC2 := Lib.hid hc2
  clear hv1 hv2 hc1 hc2
  cases c1
  · go_enter Tryd.func37, Tryd.ntmps37
    go_wp2_with fail
    refine (HV1.out _ HA.out).mono ?_
    rintro e w1 ⟨rfl, hb1⟩
    have HB1 := Lib.hid hb1; clear hb1
    go_wp2_with fail
    go_ret2
    exact resE_error (by unfold sRApply; rw [HC1.out]; rfl) rfl HB1.out
  cases c2
  · go_enter Tryd.func37, Tryd.ntmps37
    go_wp2_with fail
    refine (HV1.out _ HA.out).mono ?_
    rintro e w1 ⟨rfl, hb1⟩
    have HB1 := Lib.hid hb1; clear hb1
    go_wp2_with fail
    refine (HV2.out _ (HBb.out.up HB1.out (Nat.le_refl _))).mono ?_
    rintro e w2 ⟨rfl, hb2⟩
    have HB2 := Lib.hid (HB1.out.trans (hb2.mono HB1.out.size)); clear hb2
    go_wp2_with fail
    go_ret2
    exact resE_error (by unfold sRApply; rw [HC1.out, HC2.out]; rfl) rfl HB2.out
  have HS : Hid (sRApply s l = finR (rapp s l)) := by show _ = _; unfold sRApply; rw [HC1.out, HC2.out]; rfl
  have HNA := Lib.hid (vldE_parts HC1.out).1
  have HNB := Lib.hid (vldC_parts HC2.out).1
  go_enter Tryd.func37, Tryd.ntmps37
  go_wp2_with fail
  refine (HV1.out _ HA.out).mono ?_
  rintro e w1 ⟨rfl, hb1⟩
  have HB1 := Lib.hid hb1; clear hb1
  go_wp2_with fail
  refine (HV2.out _ (HBb.out.up HB1.out (Nat.le_refl _))).mono ?_
  rintro e wz ⟨rfl, hbz⟩
  have HBz := Lib.hid (HB1.out.trans (hbz.mono HB1.out.size)); clear hbz
  go_wp2_with fail
  clear HV1 HV2
  go_loopw [6] (fun i wr => ∃ (k : Nat), k ≤ nb ∧ i = .int .i64 k ∧ Hid ((l.take k).all (fun x => decide (dg? s x.p = x.o)) = true) ∧ Hid (Below w.heap.size w wr)) (fun i _ => nb - (intOf i).toNat)
  case atStart => exact ⟨0, Nat.zero_le _, rfl, rfl, HBz.out⟩
  case round =>
  obtain ⟨k, hk, rfl, HF, hbe⟩ := hrel
  by_cases hlt : k < nb
  · have hd : decide ((k : Int) < (nb : Int)) = true := by simp; omega
    obtain ⟨x, hx⟩ : ∃ x, l[k]? = some x := ⟨l[k]'(by have := HBb.out.len; omega), List.getElem?_eq_getElem _⟩
    obtain ⟨b1, o1, rfl, hbB, hcap, -⟩ := HBb.out.cells (by omega)
    have HX := Lib.hid hx
    have HOX := Lib.hid (HBb.out.ok x (List.mem_of_getElem? hx))
    have hxp := rng_p (range_belowS (HBb.out.at hx).2 hbe.out hbB)
    have HIO := Lib.hid (info_d HOX.out.1)
    have HST : Hid ((l.take (k + 1)).all (fun x => decide (dg? s x.p = x.o)) = decide (dg? s x.p = x.o)) := by show _ = _; rw [List.take_add_one, hx, List.all_append, HF.out]; simp
    have p1 : (0 : Int) ≤ (k : Int) := by omega
    have p2 : (k : Int) < (nb : Int) := by omega
    have hfi := (rlook_any spa na ca s x.p wr (HA.out.up hbe.out (Nat.le_refl _)) (by omega)).mono fun e w' h => h.uni
    have hDq := dg?_ok HA.out.ok x.p
    generalize dg? s x.p = d at hfi hDq HST
    have HDQ := Lib.hid hDq
    have HFI := Lib.hid hfi
    have hn1 := neqD d x.o HDQ.out.1 HOX.out.1.1
    have hne1 : ∃ c, decide (d = x.o) = c := ⟨_, rfl⟩
    obtain ⟨d1, hd1⟩ := hne1
    rw [hd1] at hn1 HST
    have HIQ := Lib.hid (info_d HDQ.out)
    have HIY : Hid ((Tryd.prog.info? 35).map (·.size) = some (d.map (Value.int .u8)).toArray.size) := by show _ = _; rw [List.size_toArray]; exact info_d HDQ.out
    have HIYs : Hid (32 = (d.map (Value.int .u8)).toArray.size) := by show _ = _; rw [List.size_toArray, List.length_map, HDQ.out.1]
    clear hx hfi hDq hd1
    go_wp2_with fail
    refine HFI.out.mono ?_
    rintro e w2 ⟨c, rfl, hb2⟩
    have HB2 := Lib.hid (hbe.out.trans (hb2.mono hbe.out.size)); clear hb2
    go_wp2_with (refine wpList_store_row rfl 35 _ _ rfl w2.heap.size _ rfl rfl 35 (Array.replicate 32 (Value.int .u8 0)) (heap_alloc_new w2 _) HIY.out ((rfl : (Array.replicate 32 (Value.int .u8 0)).size = 32).trans HIYs.out) (dgA_one _) ?_; rw [setRow_new]; generalize hw3 : World.alloc w2 _ = w3; have hcp : DpS w w2.heap.size d w3 := (by rw [← hw3]; exact ⟨HB2.out.trans (((Below.refl _ _).alloc (Nat.le_refl _) _).mono HB2.out.size), heap_alloc_new w2 _⟩); have HCP := Lib.hid hcp; clear hw3 hcp)
    refine wp_region_held_drew (S := fun w' => DpS w w2.heap.size d w') (by kernel_rfl) (HCP.out.next ((Below.refl w3.heap.size w3).drew)) (fun hHeld => ?_)
    refine' wpAnyH_take (i := 0) (oi := _) (v := _) rfl (by kernel_rfl) (by kernel_rfl) (by kernel_rfl) (fun _ _ _ h => h) (yieldsIf_load_mid (by rfl) _ _ rfl _ _ rfl _ _ ?hS0n1 Tryd.underlying35 rfl HIQ.out) (by assumption) ?rest0n1
    case hS0n1 =>
      intro w' hSw
      exact hSw.row
    try simp only [Act.put, List.getElem_toArray, List.getElem_cons_succ, List.getElem_cons_zero, List.setIfInBounds_toArray, List.set_cons_zero, List.set_cons_succ]
    refine wpAnyH_take (i := 1) (oi := _) (v := ?v1n2) rfl (by kernel_rfl) (by kernel_rfl) (by kernel_rfl) (fun _ _ _ h => h) (Or.inl ⟨by rfl, ?hy1n2⟩) (by assumption) ?rest1n2
    case hy1n2 =>
      intro w' hSw
      go_simp
      try with_reducible rfl
    try simp only [Act.put, List.getElem_toArray, List.getElem_cons_succ, List.getElem_cons_zero, List.setIfInBounds_toArray, List.set_cons_zero, List.set_cons_succ]
    refine wpAnyH_take (i := 2) (oi := _) (v := ?v2n3) rfl (by kernel_rfl) (by kernel_rfl) (by kernel_rfl) (fun _ _ _ h => h) (Or.inl ⟨by rfl, ?hy2n3⟩) (by assumption) ?rest2n3
    case hy2n3 =>
      intro w' hSw
      go_simp
      try with_reducible rfl
    try simp only [Act.put, List.getElem_toArray, List.getElem_cons_succ, List.getElem_cons_zero, List.setIfInBounds_toArray, List.set_cons_zero, List.set_cons_succ]
    refine wpAnyH_take (i := 3) (oi := _) (v := ?v3n4) rfl (by kernel_rfl) (by kernel_rfl) (by kernel_rfl) (fun _ _ _ h => h) (Or.inl ⟨by rfl, ?hy3n4⟩) (by assumption) ?rest3n4
    case hy3n4 =>
      intro w' hSw
      go_simp
      try with_reducible rfl
    try simp only [Act.put, List.getElem_toArray, List.getElem_cons_succ, List.getElem_cons_zero, List.setIfInBounds_toArray, List.set_cons_zero, List.set_cons_succ]
    refine wpAnyH_take (i := 4) (oi := _) (v := ?v4n5) rfl (by kernel_rfl) (by kernel_rfl) (by kernel_rfl) (fun _ _ _ h => h) (Or.inl ⟨by rfl, ?hy4n5⟩) (by assumption) ?rest4n5
    case hy4n5 =>
      intro w' hSw
      go_simp
      try with_reducible rfl
    try simp only [Act.put, List.getElem_toArray, List.getElem_cons_succ, List.getElem_cons_zero, List.setIfInBounds_toArray, List.set_cons_zero, List.set_cons_succ]
    refine' wpAnyH_take (i := 5) (oi := _) (v := _) rfl (by kernel_rfl) (by kernel_rfl) (by kernel_rfl) (fun _ _ _ h => h) (yieldsIf_load_mid (by rfl) _ _ rfl _ _ rfl _ _ ?hS5n6 Tryd.underlying35 rfl HIO.out) (by assumption) ?rest5n6
    case hS5n6 =>
      intro w' hSw
      exact (rng_o (range_belowS (HBb.out.at HX.out).2 hSw.below hbB))
    try simp only [Act.put, List.getElem_toArray, List.getElem_cons_succ, List.getElem_cons_zero, List.setIfInBounds_toArray, List.set_cons_zero, List.set_cons_succ]
    refine wpAnyH_take (i := 6) (oi := _) (v := ?v6n7) rfl (by kernel_rfl) (by kernel_rfl) (by kernel_rfl) (fun _ _ _ h => h) (Or.inl ⟨by rfl, ?hy6n7⟩) (by assumption) ?rest6n7
    case hy6n7 =>
      intro w' hSw
      go_simp
      try with_reducible rfl
    try simp only [Act.put, List.getElem_toArray, List.getElem_cons_succ, List.getElem_cons_zero, List.setIfInBounds_toArray, List.set_cons_zero, List.set_cons_succ]
    refine wpAnyH_done (by kernel_rfl) ?_ _
    have HCP4 := Lib.hid (HCP.out.next ((Below.refl w3.heap.size w3).drew))
    clear hHeld
    generalize World.drew w3 = w4 at HCP4 ⊢
    cases d1
    · have HZ : Hid (rapp s l = none) := by
        show _ = _
        unfold rapp
        rw [if_neg]
        intro hall
        have e : l = l.take (k + 1) ++ l.drop (k + 1) := (List.take_append_drop _ _).symm
        rw [e, List.all_append, HST.out] at hall
        cases hall
      go_wp2_with fail
      go_ret2
      exact resE_error (by rw [HS.out, HZ.out]; rfl) rfl HCP4.out.below
    go_wp2_with fail
    go_roundw
    case rel => exact ⟨k + 1, by omega, by go_num, HST.out, HCP4.out.below⟩
    case measure => simp [intOf]; omega
  · obtain rfl : k = nb := by omega
    have hd : decide ((k : Int) < (k : Int)) = false := by simp
    have HRM : Hid (rapp s l = some (l.foldl (insF En.p hA) (s.filter (keepA l)))) := by
      have := HF.out
      rw [List.take_of_length_le (by rw [HBb.out.len]; exact Nat.le_refl _)] at this
      show _ = _
      unfold rapp; rw [if_pos this]
    go_wp2_with fail
    clear hd HF
    have hBz := hbe.out
    go_loopw [9, 10] (fun v i wr => ∃ (j N : Nat) (out : List En) (sp6 : Option Addr) (cap6 : Nat), j ≤ na ∧ N ≤ j ∧ i = .int .i64 j ∧ v = .slice sp6 N cap6 ∧ Hid (N = out.length) ∧ Hid (OwnE wr w.heap.size (.slice sp6 N cap6) out) ∧ Hid ((s.take j).filter (keepA l) = out) ∧ Hid (Below w.heap.size w wr)) (fun _ i _ => na - (intOf i).toNat)
    case atStart => exact ⟨0, 0, [], _, _, Nat.zero_le _, Nat.le_refl _, rfl, rfl, rfl, OwnE.nil _ _, rfl, hBz⟩
    case round =>
    clear hbe hBz
    obtain ⟨j, N, out, sp6, cap6, hj, hN, rfl, rfl, HN, hown, HG, hbe⟩ := hrel
    have hbs := hbe.out.size
    by_cases hltj : j < na
    · have hd : decide ((j : Int) < (na : Int)) = true := by simp; omega
      obtain ⟨y, hy⟩ : ∃ y, s[j]? = some y := ⟨s[j]'(by have := HA.out.len; omega), List.getElem?_eq_getElem _⟩
      obtain ⟨b2, o2, rfl, hbB, hcap, -⟩ := HA.out.cells (by omega)
      have HOY := Lib.hid (HA.out.ok y (List.mem_of_getElem? hy))
      have hyp := rngE_p (range_belowS (HA.out.at hy).2 hbe.out hbB)
      have HIYe := Lib.hid (info_e HOY.out)
      have HRY := Lib.hid (fun W (hb : Below w.heap.size w W) => range_belowS (HA.out.at hy).2 hb hbB)
      have HST : Hid ((s.take (j + 1)).filter (keepA l) = if keepA l y then out ++ [y] else out) := by
        show _ = _
        rw [List.take_add_one, hy, List.filter_append, HG.out]
        show out ++ List.filter (keepA l) [y] = _
        rw [List.filter_cons, List.filter_nil]
        split
        · rfl
        · exact List.append_nil _
      have p1 : (0 : Int) ≤ (j : Int) := by omega
      have p2 : (j : Int) < (na : Int) := by omega
      have hfi := (rfind_any spb k cb l y.p wr (HBb.out.up hbe.out (Nat.le_refl _)) (by omega)).mono fun e w' h => h.uni HBb.out.ok
      rw [show keepA l y = (fd l y.p).isNone from rfl] at HST
      generalize fd l y.p = r at hfi HST
      have HFI := Lib.hid hfi
      clear hy hfi
      go_wp2_with fail
      refine HFI.out.mono ?_
      rintro e w2 ⟨z, hz, rfl, hb2⟩
      have HO2 := Lib.hid (hown.out.below hb2)
      have HB2 := Lib.hid (hbe.out.trans (hb2.mono hbe.out.size)); clear hb2
      have HIY : Hid ((Tryd.prog.info? 116).map (·.size) = some (cgL z).toArray.size) := by show _ = _; rw [List.size_toArray]; exact info_c hz
      have HIYs : Hid (65 = (cgL z).toArray.size) := by show _ = _; rw [List.size_toArray]; exact (cgL_length hz).symm
      clear hz
      cases r with
      | none =>
        go_wp2_with (first
          | (refine wpList_store_row rfl 116 _ _ rfl w2.heap.size _ rfl rfl 116 Tryd.zeroCells116 (heap_alloc_new w2 _) HIY.out ((rfl : (Tryd.zeroCells116).size = 65).trans HIYs.out) (cgA_one _) ?_; rw [setRow_new]; generalize hw3 : World.alloc w2 _ = w3; have hcp : Below w2.heap.size w2 w3 := (by rw [← hw3]; exact (Below.refl _ _).alloc (Nat.le_refl _) _); have HO3 := Lib.hid (HO2.out.below hcp); have HB3 := Lib.hid (HB2.out.trans (hcp.mono HB2.out.size)); clear hw3 hcp)
          | (refine wpList_load_mid rfl 105 _ rfl b2 (o2 + j * 33) rfl _ _ (HRY.out _ HB3.out) Tryd.underlying105 rfl HIYe.out ?_)
          | (refine wpList_slice_eq rfl 29 1 [(0, .tmp 67)] rfl [(0, .agg (enL y).toArray)] rfl _ _ (sliceE _ y HOY.out) ?_; generalize hw4 : World.alloc w3 _ = w4; have he4 : EnB w4 w3.heap.size y := (by rw [← hw4]; exact heap_alloc_new _ _); have hb4 : Below w3.heap.size w3 w4 := (by rw [← hw4]; exact (Below.refl _ _).alloc (Nat.le_refl _) _); have HE4 := Lib.hid he4; have HW4 := Lib.hid (HB3.out.trans (hb4.mono HB3.out.size)); have HO4 := Lib.hid (HO3.out.below hb4); clear hw4 he4 hb4)
          | (at_builtin; refine wpList_append_en rfl (.tmp 63) (.tmp 68) rfl w.heap.size _ _ N HN.out rfl HO4.out w3.heap.size y rfl HE4.out HOY.out (by omega) HW4.out.size ?_; intro sp7 cap7 w5 HO5 HB5 HG5))
        have HB6 := Lib.hid (HW4.out.trans HB5.out)
        go_roundw
        case rel => exact ⟨j + 1, N + 1, out ++ [y], sp7, cap7, by omega, by omega, by go_num, rfl, by show _ = _; rw [List.length_append, HN.out]; rfl, HO5.out, by show _ = _; rw [HST.out]; rfl, HB6.out⟩
        case measure => simp [intOf]; omega
      | some z' =>
        go_wp2_with (refine wpList_store_row rfl 116 _ _ rfl w2.heap.size _ rfl rfl 116 Tryd.zeroCells116 (heap_alloc_new w2 _) HIY.out ((rfl : (Tryd.zeroCells116).size = 65).trans HIYs.out) (cgA_one _) ?_; rw [setRow_new]; generalize hw3 : World.alloc w2 _ = w3; have hcp : Below w2.heap.size w2 w3 := (by rw [← hw3]; exact (Below.refl _ _).alloc (Nat.le_refl _) _); have HO3 := Lib.hid (HO2.out.below hcp); have HB3 := Lib.hid (HB2.out.trans (hcp.mono HB2.out.size)); clear hw3 hcp)
        go_roundw
        case rel => exact ⟨j + 1, N, out, sp6, cap6, by omega, by omega, by go_num, rfl, HN, HO3.out, by show _ = _; rw [HST.out]; rfl, HB3.out⟩
        case measure => simp [intOf]; omega
    · obtain rfl : j = na := by omega
      have hd : decide ((j : Int) < (j : Int)) = false := by simp
      have HRM2 : Hid (rapp s l = some (l.foldl (insF En.p hA) out)) := by
        have := HG.out
        rw [List.take_of_length_le (by rw [HA.out.len]; exact Nat.le_refl _)] at this
        show _ = _
        rw [HRM.out, this]
      go_wp2_with fail
      clear hd HG
      obtain ⟨out0, ho0⟩ : ∃ o, o = out := ⟨_, rfl⟩
      have HRM3 : Hid (rapp s l = some (l.foldl (insF En.p hA) out0)) := by rw [ho0]; exact HRM2
      have HO0 := Lib.hid ho0
      clear ho0
      have hNj : N ≤ j + 0 := by omega
      go_loopw [9, 13] (fun v i wr => ∃ (q M : Nat) (o : List En) (sp8 : Option Addr) (cap8 : Nat), q ≤ k ∧ M ≤ j + q ∧ i = .int .i64 q ∧ v = .slice sp8 M cap8 ∧ Hid (M = o.length) ∧ Hid (OwnE wr w.heap.size (.slice sp8 M cap8) o) ∧ Hid ((l.take q).foldl (insF En.p hA) out0 = o) ∧ Hid (Below w.heap.size w wr)) (fun _ i _ => k - (intOf i).toNat)
      case atStart => exact ⟨0, N, out, sp6, cap6, Nat.zero_le _, hNj, rfl, rfl, HN, hown, by show _ = _; rw [HO0.out]; rfl, hbe⟩
      case round =>
      clear hown hbe HN hbs
      obtain ⟨q, M, o, sp8, cap8, hq, hM, rfl, rfl, HN, hown, HG, hbe⟩ := hrel
      by_cases hltq : q < k
      · have hd : decide ((q : Int) < (k : Int)) = true := by simp; omega
        obtain ⟨x, hx⟩ : ∃ x, l[q]? = some x := ⟨l[q]'(by have := HBb.out.len; omega), List.getElem?_eq_getElem _⟩
        obtain ⟨b1, o1, rfl, hbB, hcap, -⟩ := HBb.out.cells (by omega)
        have HX := Lib.hid hx
        have HOX := Lib.hid (HBb.out.ok x (List.mem_of_getElem? hx))
        have HIN := Lib.hid (info_d HOX.out.2)
        have HXN := Lib.hid (rng_n (range_belowS (HBb.out.at hx).2 hbe.out hbB) HOX.out)
        have HST := Lib.hid (fold_step (f := insF En.p hA) HG.out hx)
        have p1 : (0 : Int) ≤ (q : Int) := by omega
        have p2 : (q : Int) < (k : Int) := by omega
        have hM4 : M ≤ 400000 := by omega
        have hz1 := neqZ x.n HOX.out.2.1
        obtain ⟨d2, hd2⟩ : ∃ c, decide (x.n = zed) = c := ⟨_, rfl⟩
        rw [hd2] at hz1
        have HD2 := Lib.hid hd2
        clear hx hd2
        cases d2
        · have hne : x.n ≠ zed := of_decide_eq_false HD2.out
          have HST2 : Hid ((l.take (q + 1)).foldl (insF En.p hA) out0 = ins En.p o ⟨x.p, x.n⟩) := by show _ = _; rw [HST.out]; exact insF_some (hA_new hne)
          have HZOK : Hid (OkE (⟨x.p, x.n⟩ : En)) := HOX.out.2
          have HG6 := Lib.hid ((hown.out.below ((Below.refl wr.heap.size wr).drew)).ens HN.out.symm)
          have HNIL := Lib.hid hown.out.nilcap
          clear hne
          go_wp2_with (refine wpList_load_mid rfl 35 _ rfl b1 (o1 + q * 65 + 33) rfl _ _ HXN.out Tryd.underlying35 rfl HIN.out ?_)
          refine wp_region_held_drew (S := fun w' => OwnE w' w.heap.size (.slice sp8 M cap8) o ∧ Below w.heap.size w w') (by kernel_rfl) ⟨hown.out.below ((Below.refl wr.heap.size wr).drew), hbe.out.drew⟩ (fun hHeld => ?_)
          refine wpAnyH_take (i := 0) (oi := _) (v := ?v0n8) rfl (by kernel_rfl) (by kernel_rfl) (by kernel_rfl) (fun _ _ _ h => h) (Or.inl ⟨by rfl, ?hy0n8⟩) (by assumption) ?rest0n8
          case hy0n8 =>
            intro w' hSw
            go_simp
            try with_reducible rfl
          try simp only [Act.put, List.getElem_toArray, List.getElem_cons_succ, List.getElem_cons_zero, List.setIfInBounds_toArray, List.set_cons_zero, List.set_cons_succ]
          refine wpAnyH_take (i := 1) (oi := _) (v := ?v1n9) rfl (by kernel_rfl) (by kernel_rfl) (by kernel_rfl) (fun _ _ _ h => h) (Or.inl ⟨by rfl, ?hy1n9⟩) (by assumption) ?rest1n9
          case hy1n9 =>
            intro w' hSw
            go_simp
            try with_reducible rfl
          try simp only [Act.put, List.getElem_toArray, List.getElem_cons_succ, List.getElem_cons_zero, List.setIfInBounds_toArray, List.set_cons_zero, List.set_cons_succ]
          refine wpAnyH_take (i := 2) (oi := _) (v := ?v2n10) rfl (by kernel_rfl) (by kernel_rfl) (by kernel_rfl) (fun _ _ _ h => h) (Or.inl ⟨by rfl, ?hy2n10⟩) (by assumption) ?rest2n10
          case hy2n10 =>
            intro w' hSw
            go_simp
            try with_reducible rfl
          try simp only [Act.put, List.getElem_toArray, List.getElem_cons_succ, List.getElem_cons_zero, List.setIfInBounds_toArray, List.set_cons_zero, List.set_cons_succ]
          refine wpAnyH_take (i := 3) (oi := _) (v := ?v3n11) rfl (by kernel_rfl) (by kernel_rfl) (by kernel_rfl) (fun _ _ _ h => h) (Or.inl ⟨by rfl, ?hy3n11⟩) (by assumption) ?rest3n11
          case hy3n11 =>
            intro w' hSw
            go_simp
            try with_reducible rfl
          try simp only [Act.put, List.getElem_toArray, List.getElem_cons_succ, List.getElem_cons_zero, List.setIfInBounds_toArray, List.set_cons_zero, List.set_cons_succ]
          refine wpAnyH_take (i := 4) (oi := _) (v := ?v4n12) rfl (by kernel_rfl) (by kernel_rfl) (by kernel_rfl) (fun _ _ _ h => h) (Or.inl ⟨by rfl, ?hy4n12⟩) (by assumption) ?rest4n12
          case hy4n12 =>
            intro w' hSw
            go_simp
            try with_reducible rfl
          try simp only [Act.put, List.getElem_toArray, List.getElem_cons_succ, List.getElem_cons_zero, List.setIfInBounds_toArray, List.set_cons_zero, List.set_cons_succ]
          refine wpAnyH_take (i := 5) (oi := _) (v := ?v5n13) rfl (by kernel_rfl) (by kernel_rfl) (by kernel_rfl) (fun _ _ _ h => h) (Or.inl ⟨by rfl, ?hy5n13⟩) (by assumption) ?rest5n13
          case hy5n13 =>
            intro w' hSw
            have h1 := rng_p (range_belowS (HBb.out.at HX.out).2 hSw.2 hbB)
            go_simp
            try with_reducible rfl
          try simp only [Act.put, List.getElem_toArray, List.getElem_cons_succ, List.getElem_cons_zero, List.setIfInBounds_toArray, List.set_cons_zero, List.set_cons_succ]
          refine wpAnyH_take (i := 6) (oi := _) (v := ?v6n14) rfl (by kernel_rfl) (by kernel_rfl) (by kernel_rfl) (fun _ _ _ h => h) (Or.inl ⟨by rfl, ?hy6n14⟩) (by assumption) ?rest6n14
          case hy6n14 =>
            intro w' hSw
            go_simp
            try with_reducible rfl
          try simp only [Act.put, List.getElem_toArray, List.getElem_cons_succ, List.getElem_cons_zero, List.setIfInBounds_toArray, List.set_cons_zero, List.set_cons_succ]
          refine wpAnyH_take (i := 7) (oi := _) (v := ?v7n15) rfl (by kernel_rfl) (by kernel_rfl) (by kernel_rfl) (fun _ _ _ h => h) (Or.inl ⟨by rfl, ?hy7n15⟩) (by assumption) ?rest7n15
          case hy7n15 =>
            intro w' hSw
            go_simp
            try with_reducible rfl
          try simp only [Act.put, List.getElem_toArray, List.getElem_cons_succ, List.getElem_cons_zero, List.setIfInBounds_toArray, List.set_cons_zero, List.set_cons_succ]
          refine wpAnyH_take (i := 8) (oi := _) (v := ?v8n16) rfl (by kernel_rfl) (by kernel_rfl) (by kernel_rfl) (fun _ _ _ h => h) (Or.inl ⟨by rfl, ?hy8n16⟩) (by assumption) ?rest8n16
          case hy8n16 =>
            intro w' hSw
            go_simp
            try with_reducible rfl
          try simp only [Act.put, List.getElem_toArray, List.getElem_cons_succ, List.getElem_cons_zero, List.setIfInBounds_toArray, List.set_cons_zero, List.set_cons_succ]
          refine wpAnyH_take (i := 9) (oi := _) (v := ?v9n17) rfl (by kernel_rfl) (by kernel_rfl) (by kernel_rfl) (fun _ _ _ h => h) (Or.inl ⟨by rfl, ?hy9n17⟩) (by assumption) ?rest9n17
          case hy9n17 =>
            intro w' hSw
            go_simp
            try with_reducible rfl
          try simp only [Act.put, List.getElem_toArray, List.getElem_cons_succ, List.getElem_cons_zero, List.setIfInBounds_toArray, List.set_cons_zero, List.set_cons_succ]
          refine' wpAnyH_take (i := 10) (oi := _) (v := _) rfl (by kernel_rfl) (by kernel_rfl) (by kernel_rfl) (fun _ _ _ h => h) (yieldsIf_load_mid (by rfl) _ _ rfl _ _ rfl _ _ ?hS10n18 Tryd.underlying35 rfl HIN.out) (by assumption) ?rest10n18
          case hS10n18 =>
            intro w' hSw
            exact (rng_n (range_belowS (HBb.out.at HX.out).2 hSw.2 hbB) HOX.out)
          try simp only [Act.put, List.getElem_toArray, List.getElem_cons_succ, List.getElem_cons_zero, List.setIfInBounds_toArray, List.set_cons_zero, List.set_cons_succ]
          refine wpAnyH_take (i := 11) (oi := _) (v := _) rfl (by kernel_rfl) (by kernel_rfl) (by kernel_rfl) (fun _ _ _ h => h) (yieldsIf_buildS (by rfl) 105 [(0, .tmp 88), (1, .tmp 93)] rfl [(0, .string x.p), (1, .agg (x.n.map (Value.int .u8)).toArray)] rfl _ (fun w' _ => buildE x.p x.n HOX.out.2.1 w')) (by assumption) ?rest11n19
          try simp only [Act.put, List.getElem_toArray, List.getElem_cons_succ, List.getElem_cons_zero, List.setIfInBounds_toArray, List.set_cons_zero, List.set_cons_succ]
          refine wpAnyH_ready (rs := [12]) (by kernel_rfl) (by simp) (AllReadyH.cons (o := _) rfl (fun K hK => ?_) AllReadyH.nil)
          go_simp
          with_reducible refine (rinsert_any sp8 M cap8 o ⟨x.p, x.n⟩ _ HG6.out HNIL.out HZOK.out hM4).mono ?_
          rintro e w6 ⟨sp7, cap7, rfl, ho7, hb7⟩
          go_wp2_with fail
          refine hK.out _ _ ⟨(hown.out.below ((Below.refl wr.heap.size wr).drew)).below hb7, (hbe.out.drew).trans (hb7.mono (hbe.out.drew).size)⟩ (fun hHeld => ?_)
          clear hK K
          try simp only [Act.put, List.getElem_toArray, List.getElem_cons_succ, List.getElem_cons_zero, List.setIfInBounds_toArray, List.set_cons_zero, List.set_cons_succ]
          refine wpAnyH_take (i := 13) (oi := _) (v := ?v13n20) rfl (by kernel_rfl) (by kernel_rfl) (by kernel_rfl) (fun _ _ _ h => h) (Or.inl ⟨by rfl, ?hy13n20⟩) (by assumption) ?rest13n20
          case hy13n20 =>
            intro w' hSw
            go_simp
            try with_reducible rfl
          try simp only [Act.put, List.getElem_toArray, List.getElem_cons_succ, List.getElem_cons_zero, List.setIfInBounds_toArray, List.set_cons_zero, List.set_cons_succ]
          refine wpAnyH_done (by kernel_rfl) ?_ _
          have HO7 := Lib.hid (ho7.base (hbe.out.drew).size)
          have HB7 := Lib.hid ((hbe.out.drew).trans (hb7.mono (hbe.out.drew).size)); clear ho7 hb7 hHeld
          go_wp2_with fail
          go_roundw
          case rel => exact ⟨q + 1, M + 1, ins En.p o ⟨x.p, x.n⟩, sp7, cap7, by omega, by omega, by go_num, rfl, by show _ = _; rw [length_ins, HN.out], HO7.out, HST2.out, HB7.out⟩
          case measure => simp [intOf]; omega
        · have HST2 : Hid ((l.take (q + 1)).foldl (insF En.p hA) out0 = o) := by show _ = _; rw [HST.out]; exact insF_none (hA_zero (of_decide_eq_true HD2.out))
          go_wp2_with (refine wpList_load_mid rfl 35 _ rfl b1 (o1 + q * 65 + 33) rfl _ _ HXN.out Tryd.underlying35 rfl HIN.out ?_)
          go_roundw
          case rel => exact ⟨q + 1, M, o, sp8, cap8, by omega, by omega, by go_num, rfl, HN, hown, HST2.out, hbe⟩
          case measure => simp [intOf]; omega
      · obtain rfl : q = k := by omega
        have hd : decide ((q : Int) < (q : Int)) = false := by simp
        have HRM4 : Hid (rapp s l = some o) := by
          have := HG.out
          rw [List.take_of_length_le (by rw [HBb.out.len]; exact Nat.le_refl _)] at this
          show _ = _
          rw [HRM3.out, this]
        by_cases h64 : 64 < M
        · have hd2 : decide ((M : Int) > 64) = true := by simp; omega
          have HS2 : Hid (sRApply s l = .error 3) := by show _ = _; rw [HS.out, HRM4.out]; exact if_pos (by rw [← HN.out]; exact h64)
          clear h64
          go_wp2_with fail
          go_ret2
          exact resE_error HS2.out rfl hbe.out
        · have hd2 : decide ((M : Int) > 64) = false := by simp; omega
          have HS2 : Hid (sRApply s l = .ok o) := by show _ = _; rw [HS.out, HRM4.out]; exact if_neg (by rw [← HN.out]; exact h64)
          clear h64
          go_wp2_with fail
          go_ret2
          exact resE_ok HS2.out HN.out rfl hown.out hbe.out
end Go.Proofs.YtjeiiojchlfpoaaDoor
