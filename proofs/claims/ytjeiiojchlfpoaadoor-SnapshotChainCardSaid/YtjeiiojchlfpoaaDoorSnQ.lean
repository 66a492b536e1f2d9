/-
  The walk of the reference's Compose (conditions: digests of 32 bytes, at most 100000 elements; a nil slice has no room).
-/
import Derived.Test.YtjeiiojchlfpoaaDoorSnP
namespace Go.Proofs.YtjeiiojchlfpoaaDoor
open Go.RowKit

theorem OwnC.nilcap {w : World} {base n cap : Nat} {sp : Option Addr} {l : List Cg} (h : OwnC w base (.slice sp n cap) l) : sp = none → cap = 0 := by
  rintro rfl
  obtain ⟨_, ⟨e, _⟩ | ⟨g, c, u, e, _⟩⟩ := h.1
  · injection e
  · cases e
theorem OwnE.nilcap {w : World} {base n cap : Nat} {sp : Option Addr} {l : List En} (h : OwnE w base (.slice sp n cap) l) : sp = none → cap = 0 := by
  rintro rfl
  obtain ⟨_, ⟨e, _⟩ | ⟨g, c, u, e, _⟩⟩ := h.1
  · injection e
  · cases e
/-- what is known on the way through a round: the list made so far, a change in a block of its own -/
structure CpS (w : World) (v : Value) (out : List Cg) (bx : Nat) (y : Cg) (W : World) : Prop where
  own : OwnC W w.heap.size v out
  below : Below w.heap.size w W
  box : CgB W bx y
theorem CpS.lt {w : World} {v : Value} {out : List Cg} {bx : Nat} {y : Cg} {W : World} (h : CpS w v out bx y W) : bx < W.heap.size := (Array.getElem?_eq_some_iff.1 h.box).1
theorem CpS.next {w : World} {v : Value} {out : List Cg} {bx : Nat} {y : Cg} {W W' : World} (h : CpS w v out bx y W) (hb : Below W.heap.size W W') : CpS w v out bx y W' :=
  ⟨h.own.below hb, h.below.trans (hb.mono h.below.size), h.box.below hb h.lt⟩
def sRCompose (a b : List Cg) : Except Int (List Cg) := if vldC a && vldC b then finC (rcomp a b) else .error 1
theorem vldC_parts {l : List Cg} (h : vldC l = true) : l.length ≤ 128 ∧ Srt Cg.p l ∧ ∀ x ∈ l, x.o ≠ x.n := by
  unfold vldC at h
  rw [Bool.and_eq_true, Bool.and_eq_true] at h
  refine ⟨by simpa using h.1.1, (ascB_iff l).1 h.2, fun x hx e => ?_⟩
  have h1 : l.any badC = false := by simpa using h.1.2
  have := List.any_eq_false.1 h1 x hx
  unfold badC at this
  rw [decide_eq_true e] at this; simp at this
theorem vldE_parts {l : List En} (h : vldE l = true) : l.length ≤ 64 ∧ Srt En.p l ∧ ∀ x ∈ l, x.d ≠ zed := by
  unfold vldE at h
  rw [Bool.and_eq_true, Bool.and_eq_true] at h
  refine ⟨by simpa using h.1.1, (ascB_iff l).1 h.2, fun x hx e => ?_⟩
  have h1 : l.any badE = false := by simpa using h.1.2
  have := List.any_eq_false.1 h1 x hx
  unfold badE at this
  rw [decide_eq_true e] at this; simp at this
theorem sRCompose_eq (a b : List Cg) : sRCompose a b = sCompose a b := by
  unfold sRCompose sCompose
  by_cases h : (vldC a && vldC b) = true
  · rw [if_pos h, if_pos h]
    rw [Bool.and_eq_true] at h
    rw [rcomp_eq (vldC_parts h.1).2.1 (vldC_parts h.2).2.1 (vldC_parts h.1).2.2 (vldC_parts h.2).2.2]
  · rw [if_neg h, if_neg h]
theorem foldM_step {α β : Type} {f : β → α → Option β} {l : List α} {i : β} {k : Nat} {x : α} {o : β} (h : (l.take k).foldlM f i = some o) (hx : l[k]? = some x) : (l.take (k + 1)).foldlM f i = f o x := by
  rw [List.take_add_one, hx, List.foldlM_append, h]
  show (List.foldlM f o [x]) = _
  simp [List.foldlM_cons, List.foldlM_nil]
theorem foldM_none {α β : Type} {f : β → α → Option β} {l : List α} {i : β} {k : Nat} (h : (l.take k).foldlM f i = none) : l.foldlM f i = none := by
  have e : l = l.take k ++ l.drop k := (List.take_append_drop k l).symm
  rw [e, List.foldlM_append, h]; rfl
theorem rc1_none {b out : List Cg} {x : Cg} (h : fd b x.p = none) : rc1 b out x = some (ins Cg.p out x) := by unfold rc1; rw [h]
theorem rc1_some {b out : List Cg} {x y : Cg} (h : fd b x.p = some y) : rc1 b out x = if x.n = y.o then (if x.o = y.n then some out else some (ins Cg.p out ⟨y.p, x.o, y.n⟩)) else none := by unfold rc1; rw [h]
theorem rc2_none {a out : List Cg} {y : Cg} (h : fd a y.p = none) : rc2 a out y = ins Cg.p out y := by unfold rc2; rw [h]
theorem rc2_some {a out : List Cg} {x y : Cg} (h : fd a y.p = some x) : rc2 a out y = out := by unfold rc2; rw [h]
set_option maxRecDepth 100000 in
set_option maxHeartbeats 4000000 in
theorem refCompose_any (spa : Option Addr) (na ca : Nat) (a : List Cg) (spb : Option Addr) (nb cb : Nat) (b : List Cg) (w : World) (ha : CgsIn w w.heap.size spa na ca a) (hb : CgsIn w w.heap.size spb nb cb b) (hna : na ≤ 100000) (hnb : nb ≤ 100000) :
    Calls Tryd.prog 39 #[.slice spa na ca, .slice spb nb cb] w (ResC w (sRCompose a b)) := by
  have HA := Lib.hid ha; have HBb := Lib.hid hb; clear ha hb
  obtain ⟨c1, hc1⟩ : ∃ c, vldC a = c := ⟨_, rfl⟩
  obtain ⟨c2, hc2⟩ : ∃ c, vldC b = c := ⟨_, rfl⟩
  have hv1 := fun w' (h : CgsIn w' w'.heap.size spa na ca a) => refValidChanges_any spa na ca a w' h (by omega)
  have hv2 := fun w' (h : CgsIn w' w'.heap.size spb nb cb b) => refValidChanges_any spb nb cb b w' h (by omega)
  rw [hc1] at hv1; rw [hc2] at hv2
  have HV1 := Lib.hid hv1; have HV2 := Lib.hid hv2; have HC1 := Lib.hid hc1; have HC2 := Lib.hid hc2
  clear hv1 hv2 hc1 hc2
  cases c1
  · go_enter Tryd.func39, Tryd.ntmps39
    go_wp2_with fail
    refine (HV1.out _ HA.out).mono ?_
    rintro e w1 ⟨rfl, hb1⟩
    have HB1 := Lib.hid hb1; clear hb1
    go_wp2_with fail
    go_ret2
    exact resC_error (by unfold sRCompose; rw [HC1.out]; rfl) rfl HB1.out
  cases c2
  · go_enter Tryd.func39, Tryd.ntmps39
    go_wp2_with fail
    refine (HV1.out _ HA.out).mono ?_
    rintro e w1 ⟨rfl, hb1⟩
    have HB1 := Lib.hid hb1; clear hb1
    go_wp2_with fail
    refine (HV2.out _ (HBb.out.up HB1.out (Nat.le_refl _))).mono ?_
    rintro e w2 ⟨rfl, hb2⟩
    have HB2 := Lib.hid (HB1.out.trans (hb2.mono HB1.out.size)); clear hb2
    go_wp2_with fail
    go_ret2
    exact resC_error (by unfold sRCompose; rw [HC1.out, HC2.out]; rfl) rfl HB2.out
  have HS : Hid (sRCompose a b = finC (rcomp a b)) := by show _ = _; unfold sRCompose; rw [HC1.out, HC2.out]; rfl
  go_enter Tryd.func39, Tryd.ntmps39
  go_wp2_with fail
  refine (HV1.out _ HA.out).mono ?_
  rintro e w1 ⟨rfl, hb1⟩
  have HB1 := Lib.hid hb1; clear hb1
  go_wp2_with fail
  refine (HV2.out _ (HBb.out.up HB1.out (Nat.le_refl _))).mono ?_
  rintro e wz ⟨rfl, hbz⟩
  have HBz := Lib.hid (HB1.out.trans (hbz.mono HB1.out.size)); clear hbz
  go_wp2_with fail
  clear HV1 HV2
  go_loopw [6, 7] (fun v i wr => ∃ (k N : Nat) (out : List Cg) (sp6 : Option Addr) (cap6 : Nat), k ≤ na ∧ N ≤ k ∧ i = .int .i64 k ∧ v = .slice sp6 N cap6 ∧ Hid (N = out.length) ∧ Hid (OwnC wr w.heap.size (.slice sp6 N cap6) out) ∧ Hid ((a.take k).foldlM (rc1 b) [] = some out) ∧ Hid (Below w.heap.size w wr)) (fun _ i _ => na - (intOf i).toNat)
  case atStart => exact ⟨0, 0, [], _, _, Nat.zero_le _, Nat.le_refl _, rfl, rfl, rfl, OwnC.nil _ _, rfl, HBz.out⟩
  case round =>
  obtain ⟨k, N, out, sp6, cap6, hk, hNk, rfl, rfl, HN, hown, HF, hbe⟩ := hrel
  by_cases hlt : k < na
  · have hd : decide ((k : Int) < (na : Int)) = true := by simp; omega
    obtain ⟨x, hx⟩ : ∃ x, a[k]? = some x := ⟨a[k]'(by have := HA.out.len; omega), List.getElem?_eq_getElem _⟩
    obtain ⟨b1, o1, rfl, hbB, hcap, -⟩ := HA.out.cells (by omega)
    have HX := Lib.hid hx
    have HOX := Lib.hid (HA.out.ok x (List.mem_of_getElem? hx))
    have hxp := rng_p (range_belowS (HA.out.at hx).2 hbe.out hbB)
    have HIX := Lib.hid (info_c HOX.out); have HIO := Lib.hid (info_d HOX.out.1); have HIN := Lib.hid (info_d HOX.out.2)
    have HST := Lib.hid (foldM_step (f := rc1 b) HF.out hx)
    have p1 : (0 : Int) ≤ (k : Int) := by omega
    have p2 : (k : Int) < (na : Int) := by omega
    have q1 : IntKind.i64.wrap (k : Int) = (k : Int) := IntWalk.i64_in _ (by omega)
    have hN4 : N ≤ 400000 := by omega
    obtain ⟨r, hr⟩ : ∃ r, fd b x.p = r := ⟨_, rfl⟩
    have hfi := rfind_any spb nb cb b x.p wr (HBb.out.up hbe.out (Nat.le_refl _)) (by omega)
    rw [hr] at hfi
    have HFI := Lib.hid hfi; have HR := Lib.hid hr
    clear hx hr hfi
    go_wp2_with fail
    refine HFI.out.mono ?_
    rintro e w2 hres
    cases r with
    | none =>
      obtain ⟨rfl, hb2⟩ := hres
      have HO2 := Lib.hid (hown.out.below hb2)
      have HB2 := Lib.hid (hbe.out.trans (hb2.mono hbe.out.size)); clear hb2
      have HIY : Hid ((Tryd.prog.info? 116).map (·.size) = some (cgL ⟨⟨#[]⟩, zed, zed⟩).toArray.size) := by show _ = _; rw [List.size_toArray]; exact info_c zeroCg_ok
      have HIYs : Hid (65 = (cgL ⟨⟨#[]⟩, zed, zed⟩).toArray.size) := by show _ = _; rfl
      have HRX := Lib.hid (fun W (hb : Below w.heap.size w W) => range_belowS (HA.out.at HX.out).2 hb hbB)
      go_wp2_with (first
        | (refine wpList_store_row rfl 116 _ _ rfl w2.heap.size _ rfl rfl 116 Tryd.zeroCells116 (heap_alloc_new w2 _) HIY.out ((rfl : (Tryd.zeroCells116).size = 65).trans HIYs.out) (cgA_one _) ?_; rw [setRow_new]; generalize hw3 : World.alloc w2 _ = w3; have hcp : CpS w (.slice sp6 N cap6) out w2.heap.size ⟨⟨#[]⟩, zed, zed⟩ w3 := (by rw [← hw3]; exact ⟨HO2.out.below ((Below.refl _ _).alloc (Nat.le_refl _) _), HB2.out.trans (((Below.refl _ _).alloc (Nat.le_refl _) _).mono HB2.out.size), CgB.new w2 ⟨⟨#[]⟩, zed, zed⟩⟩); have HCP := Lib.hid hcp; clear hw3 hcp)
        | (refine wpList_load_mid rfl 116 _ rfl b1 (o1 + k * 65) rfl _ _ (HRX.out _ HCP.out.below) Tryd.underlying116 rfl HIX.out ?_))
      refine (rput_any sp6 N cap6 out x _ (HCP.out.own.cgs HN.out.symm) HCP.out.own.nilcap HOX.out hN4).mono ?_
      rintro e w6 ⟨sp7, cap7, rfl, ho7, hb7⟩
      have HO7 := Lib.hid (ho7.base HCP.out.below.size)
      have HB7 := Lib.hid (HCP.out.below.trans (hb7.mono HCP.out.below.size)); clear ho7 hb7
      go_wp2_with fail
      go_roundw
      case rel => exact ⟨k + 1, N + 1, ins Cg.p out x, sp7, cap7, by omega, by omega, by go_num, rfl, by show _ = _; rw [length_ins, HN.out], HO7, by show _ = _; rw [HST.out, rc1_none HR.out], HB7⟩
      case measure => simp [intOf]; omega
    | some y =>
      obtain ⟨rfl, hb2⟩ := hres
      have hyb := (fd_some HR.out).1
      have HOY := Lib.hid (HBb.out.ok y hyb)
      have HYO := Lib.hid (info_d HOY.out.1); have HYN := Lib.hid (info_d HOY.out.2)
      have HO2 := Lib.hid (hown.out.below hb2)
      have HB2 := Lib.hid (hbe.out.trans (hb2.mono hbe.out.size)); clear hb2
      have HIY : Hid ((Tryd.prog.info? 116).map (·.size) = some (cgL y).toArray.size) := by show _ = _; rw [List.size_toArray]; exact info_c HOY.out
      have HIYs : Hid (65 = (cgL y).toArray.size) := by show _ = _; rw [List.size_toArray]; exact (cgL_length HOY.out).symm
      have hn1 := neqD x.n y.o HOX.out.2.1 HOY.out.1.1
      have hn2 := neqD x.o y.n HOX.out.1.1 HOY.out.2.1
      have hne1 : ∃ c, decide (x.n = y.o) = c := ⟨_, rfl⟩
      obtain ⟨d1, hd1⟩ := hne1
      have hne2 : ∃ c, decide (x.o = y.n) = c := ⟨_, rfl⟩
      obtain ⟨d2, hd2⟩ := hne2
      rw [hd1] at hn1; rw [hd2] at hn2
      have HD1 := Lib.hid hd1; have HD2 := Lib.hid hd2
      have HZOK : Hid (OkC (⟨y.p, x.o, y.n⟩ : Cg)) := ⟨HOX.out.1, HOY.out.2⟩
      have HRC := Lib.hid (rc1_some (out := out) HR.out)
      clear hd1 hd2 hyb
      go_wp2_with (refine wpList_store_row rfl 116 _ _ rfl w2.heap.size _ rfl rfl 116 Tryd.zeroCells116 (heap_alloc_new w2 _) HIY.out ((rfl : (Tryd.zeroCells116).size = 65).trans HIYs.out) (cgA_one _) ?_; rw [setRow_new]; generalize hw3 : World.alloc w2 _ = w3; have hcp : CpS w (.slice sp6 N cap6) out w2.heap.size y w3 := (by rw [← hw3]; exact ⟨HO2.out.below ((Below.refl _ _).alloc (Nat.le_refl _) _), HB2.out.trans (((Below.refl _ _).alloc (Nat.le_refl _) _).mono HB2.out.size), CgB.new w2 y⟩); have HCP := Lib.hid hcp; clear hw3 hcp)
      refine wp_region_held_drew (S := fun w' => CpS w (.slice sp6 N cap6) out w2.heap.size y w') (by kernel_rfl) (HCP.out.next ((Below.refl w3.heap.size w3).drew)) (fun hHeld => ?_)
      refine wpAnyH_take (i := 0) (oi := _) (v := ?v0n1) rfl (by kernel_rfl) (by kernel_rfl) (by kernel_rfl) (fun _ _ _ h => h) (Or.inl ⟨by rfl, ?hy0n1⟩) (by assumption) ?rest0n1
      case hy0n1 =>
        intro w' hSw
        go_simp
        try with_reducible rfl
      try simp only [Act.put, List.getElem_toArray, List.getElem_cons_succ, List.getElem_cons_zero, List.setIfInBounds_toArray, List.set_cons_zero, List.set_cons_succ]
      refine wpAnyH_take (i := 1) (oi := _) (v := ?v1n2) rfl (by kernel_rfl) (by kernel_rfl) (by kernel_rfl) (fun _ _ _ h => h) (Or.inl ⟨by rfl, ?hy1n2⟩) (by assumption) ?rest1n2
      case hy1n2 =>
        intro w' hSw
        go_simp
        try with_reducible rfl
      try simp only [Act.put, List.getElem_toArray, List.getElem_cons_succ, List.getElem_cons_zero, List.setIfInBounds_toArray, List.set_cons_zero, List.set_cons_succ]
      refine wpAnyH_take (i := 2) (oi := _) (v := ?v2n3) rfl (by kernel_rfl) (by kernel_rfl) (by kernel_rfl) (fun _ _ _ h => h) (Or.inl ⟨by rfl, ?hy2n3⟩) (by assumption) ?rest2n3
      case hy2n3 =>
        intro w' hSw
        go_simp
        try with_reducible rfl
      try simp only [Act.put, List.getElem_toArray, List.getElem_cons_succ, List.getElem_cons_zero, List.setIfInBounds_toArray, List.set_cons_zero, List.set_cons_succ]
      refine wpAnyH_take (i := 3) (oi := _) (v := ?v3n4) rfl (by kernel_rfl) (by kernel_rfl) (by kernel_rfl) (fun _ _ _ h => h) (Or.inl ⟨by rfl, ?hy3n4⟩) (by assumption) ?rest3n4
      case hy3n4 =>
        intro w' hSw
        go_simp
        try with_reducible rfl
      try simp only [Act.put, List.getElem_toArray, List.getElem_cons_succ, List.getElem_cons_zero, List.setIfInBounds_toArray, List.set_cons_zero, List.set_cons_succ]
      refine' wpAnyH_take (i := 4) (oi := _) (v := _) rfl (by kernel_rfl) (by kernel_rfl) (by kernel_rfl) (fun _ _ _ h => h) (yieldsIf_load_mid (by rfl) _ _ rfl _ _ rfl _ _ ?hS4n5 Tryd.underlying35 rfl HIN.out) (by assumption) ?rest4n5
      case hS4n5 =>
        intro w' hSw
        exact (range_belowS (rng_n (HA.out.at HX.out).2 HOX.out) hSw.below hbB)
      try simp only [Act.put, List.getElem_toArray, List.getElem_cons_succ, List.getElem_cons_zero, List.setIfInBounds_toArray, List.set_cons_zero, List.set_cons_succ]
      refine wpAnyH_take (i := 5) (oi := _) (v := ?v5n6) rfl (by kernel_rfl) (by kernel_rfl) (by kernel_rfl) (fun _ _ _ h => h) (Or.inl ⟨by rfl, ?hy5n6⟩) (by assumption) ?rest5n6
      case hy5n6 =>
        intro w' hSw
        go_simp
        try with_reducible rfl
      try simp only [Act.put, List.getElem_toArray, List.getElem_cons_succ, List.getElem_cons_zero, List.setIfInBounds_toArray, List.set_cons_zero, List.set_cons_succ]
      refine' wpAnyH_take (i := 6) (oi := _) (v := _) rfl (by kernel_rfl) (by kernel_rfl) (by kernel_rfl) (fun _ _ _ h => h) (yieldsIf_load_mid (by rfl) _ _ rfl _ _ rfl _ _ ?hS6n7 Tryd.underlying35 rfl HYO.out) (by assumption) ?rest6n7
      case hS6n7 =>
        intro w' hSw
        exact hSw.box.o
      try simp only [Act.put, List.getElem_toArray, List.getElem_cons_succ, List.getElem_cons_zero, List.setIfInBounds_toArray, List.set_cons_zero, List.set_cons_succ]
      refine wpAnyH_take (i := 7) (oi := _) (v := ?v7n8) rfl (by kernel_rfl) (by kernel_rfl) (by kernel_rfl) (fun _ _ _ h => h) (Or.inl ⟨by rfl, ?hy7n8⟩) (by assumption) ?rest7n8
      case hy7n8 =>
        intro w' hSw
        go_simp
        try with_reducible rfl
      try simp only [Act.put, List.getElem_toArray, List.getElem_cons_succ, List.getElem_cons_zero, List.setIfInBounds_toArray, List.set_cons_zero, List.set_cons_succ]
      refine wpAnyH_done (by kernel_rfl) ?_ _
      have HCP4 := Lib.hid (HCP.out.next ((Below.refl w3.heap.size w3).drew))
      clear hHeld
      generalize World.drew w3 = w4 at HCP4 ⊢
      cases d1
      · have HZ : Hid (rcomp a b = none) := by
          show _ = _
          have h1 := HD1.out
          rw [decide_eq_false_iff_not] at h1
          unfold rcomp
          rw [foldM_none (by rw [HST.out, HRC.out, if_neg h1])]; rfl
        go_wp2_with fail
        go_ret2
        exact resC_error (by rw [HS.out, HZ.out]; rfl) rfl HCP4.out.below
      go_wp2_with fail
      refine wp_region_held_drew (S := fun w' => CpS w (.slice sp6 N cap6) out w2.heap.size y w') (by kernel_rfl) (HCP4.out.next ((Below.refl w4.heap.size w4).drew)) (fun hHeld => ?_)
      refine wpAnyH_take (i := 0) (oi := _) (v := ?v0n9) rfl (by kernel_rfl) (by kernel_rfl) (by kernel_rfl) (fun _ _ _ h => h) (Or.inl ⟨by rfl, ?hy0n9⟩) (by assumption) ?rest0n9
      case hy0n9 =>
        intro w' hSw
        go_simp
        try with_reducible rfl
      try simp only [Act.put, List.getElem_toArray, List.getElem_cons_succ, List.getElem_cons_zero, List.setIfInBounds_toArray, List.set_cons_zero, List.set_cons_succ]
      refine wpAnyH_take (i := 1) (oi := _) (v := ?v1n10) rfl (by kernel_rfl) (by kernel_rfl) (by kernel_rfl) (fun _ _ _ h => h) (Or.inl ⟨by rfl, ?hy1n10⟩) (by assumption) ?rest1n10
      case hy1n10 =>
        intro w' hSw
        go_simp
        try with_reducible rfl
      try simp only [Act.put, List.getElem_toArray, List.getElem_cons_succ, List.getElem_cons_zero, List.setIfInBounds_toArray, List.set_cons_zero, List.set_cons_succ]
      refine wpAnyH_take (i := 2) (oi := _) (v := ?v2n11) rfl (by kernel_rfl) (by kernel_rfl) (by kernel_rfl) (fun _ _ _ h => h) (Or.inl ⟨by rfl, ?hy2n11⟩) (by assumption) ?rest2n11
      case hy2n11 =>
        intro w' hSw
        go_simp
        try with_reducible rfl
      try simp only [Act.put, List.getElem_toArray, List.getElem_cons_succ, List.getElem_cons_zero, List.setIfInBounds_toArray, List.set_cons_zero, List.set_cons_succ]
      refine wpAnyH_take (i := 3) (oi := _) (v := ?v3n12) rfl (by kernel_rfl) (by kernel_rfl) (by kernel_rfl) (fun _ _ _ h => h) (Or.inl ⟨by rfl, ?hy3n12⟩) (by assumption) ?rest3n12
      case hy3n12 =>
        intro w' hSw
        go_simp
        try with_reducible rfl
      try simp only [Act.put, List.getElem_toArray, List.getElem_cons_succ, List.getElem_cons_zero, List.setIfInBounds_toArray, List.set_cons_zero, List.set_cons_succ]
      refine' wpAnyH_take (i := 4) (oi := _) (v := _) rfl (by kernel_rfl) (by kernel_rfl) (by kernel_rfl) (fun _ _ _ h => h) (yieldsIf_load_mid (by rfl) _ _ rfl _ _ rfl _ _ ?hS4n13 Tryd.underlying35 rfl HIO.out) (by assumption) ?rest4n13
      case hS4n13 =>
        intro w' hSw
        exact (range_belowS (rng_o (HA.out.at HX.out).2) hSw.below hbB)
      try simp only [Act.put, List.getElem_toArray, List.getElem_cons_succ, List.getElem_cons_zero, List.setIfInBounds_toArray, List.set_cons_zero, List.set_cons_succ]
      refine wpAnyH_take (i := 5) (oi := _) (v := ?v5n14) rfl (by kernel_rfl) (by kernel_rfl) (by kernel_rfl) (fun _ _ _ h => h) (Or.inl ⟨by rfl, ?hy5n14⟩) (by assumption) ?rest5n14
      case hy5n14 =>
        intro w' hSw
        go_simp
        try with_reducible rfl
      try simp only [Act.put, List.getElem_toArray, List.getElem_cons_succ, List.getElem_cons_zero, List.setIfInBounds_toArray, List.set_cons_zero, List.set_cons_succ]
      refine' wpAnyH_take (i := 6) (oi := _) (v := _) rfl (by kernel_rfl) (by kernel_rfl) (by kernel_rfl) (fun _ _ _ h => h) (yieldsIf_load_mid (by rfl) _ _ rfl _ _ rfl _ _ ?hS6n15 Tryd.underlying35 rfl HYN.out) (by assumption) ?rest6n15
      case hS6n15 =>
        intro w' hSw
        exact (hSw.box.n HOY.out)
      try simp only [Act.put, List.getElem_toArray, List.getElem_cons_succ, List.getElem_cons_zero, List.setIfInBounds_toArray, List.set_cons_zero, List.set_cons_succ]
      refine wpAnyH_take (i := 7) (oi := _) (v := ?v7n16) rfl (by kernel_rfl) (by kernel_rfl) (by kernel_rfl) (fun _ _ _ h => h) (Or.inl ⟨by rfl, ?hy7n16⟩) (by assumption) ?rest7n16
      case hy7n16 =>
        intro w' hSw
        go_simp
        try with_reducible rfl
      try simp only [Act.put, List.getElem_toArray, List.getElem_cons_succ, List.getElem_cons_zero, List.setIfInBounds_toArray, List.set_cons_zero, List.set_cons_succ]
      refine wpAnyH_done (by kernel_rfl) ?_ _
      have HCP5 := Lib.hid (HCP4.out.next ((Below.refl w4.heap.size w4).drew))
      clear hHeld
      generalize World.drew w4 = w5 at HCP5 ⊢
      have h1 : x.n = y.o := by have := HD1.out; simpa using this
      cases d2
      · have HST2 : Hid ((a.take (k + 1)).foldlM (rc1 b) [] = some (ins Cg.p out ⟨y.p, x.o, y.n⟩)) := by
          show _ = _
          have h2 := HD2.out
          rw [decide_eq_false_iff_not] at h2
          rw [HST.out, HRC.out, if_pos h1, if_neg h2]
        have HG6 := Lib.hid ((HCP5.out.next ((Below.refl w5.heap.size w5).drew)).own.cgs HN.out.symm)
        have HNIL := Lib.hid HCP5.out.own.nilcap
        clear h1
        go_wp2_with fail
        refine wp_region_held_drew (S := fun w' => CpS w (.slice sp6 N cap6) out w2.heap.size y w') (by kernel_rfl) (HCP5.out.next ((Below.refl w5.heap.size w5).drew)) (fun hHeld => ?_)
        refine wpAnyH_take (i := 0) (oi := _) (v := ?v0n17) rfl (by kernel_rfl) (by kernel_rfl) (by kernel_rfl) (fun _ _ _ h => h) (Or.inl ⟨by rfl, ?hy0n17⟩) (by assumption) ?rest0n17
        case hy0n17 =>
          intro w' hSw
          go_simp
          try with_reducible rfl
        try simp only [Act.put, List.getElem_toArray, List.getElem_cons_succ, List.getElem_cons_zero, List.setIfInBounds_toArray, List.set_cons_zero, List.set_cons_succ]
        refine wpAnyH_take (i := 1) (oi := _) (v := ?v1n18) rfl (by kernel_rfl) (by kernel_rfl) (by kernel_rfl) (fun _ _ _ h => h) (Or.inl ⟨by rfl, ?hy1n18⟩) (by assumption) ?rest1n18
        case hy1n18 =>
          intro w' hSw
          go_simp
          try with_reducible rfl
        try simp only [Act.put, List.getElem_toArray, List.getElem_cons_succ, List.getElem_cons_zero, List.setIfInBounds_toArray, List.set_cons_zero, List.set_cons_succ]
        refine wpAnyH_take (i := 2) (oi := _) (v := ?v2n19) rfl (by kernel_rfl) (by kernel_rfl) (by kernel_rfl) (fun _ _ _ h => h) (Or.inl ⟨by rfl, ?hy2n19⟩) (by assumption) ?rest2n19
        case hy2n19 =>
          intro w' hSw
          have h1 := hSw.box.p
          go_simp
          try with_reducible rfl
        try simp only [Act.put, List.getElem_toArray, List.getElem_cons_succ, List.getElem_cons_zero, List.setIfInBounds_toArray, List.set_cons_zero, List.set_cons_succ]
        refine wpAnyH_take (i := 3) (oi := _) (v := ?v3n20) rfl (by kernel_rfl) (by kernel_rfl) (by kernel_rfl) (fun _ _ _ h => h) (Or.inl ⟨by rfl, ?hy3n20⟩) (by assumption) ?rest3n20
        case hy3n20 =>
          intro w' hSw
          go_simp
          try with_reducible rfl
        try simp only [Act.put, List.getElem_toArray, List.getElem_cons_succ, List.getElem_cons_zero, List.setIfInBounds_toArray, List.set_cons_zero, List.set_cons_succ]
        refine wpAnyH_take (i := 4) (oi := _) (v := ?v4n21) rfl (by kernel_rfl) (by kernel_rfl) (by kernel_rfl) (fun _ _ _ h => h) (Or.inl ⟨by rfl, ?hy4n21⟩) (by assumption) ?rest4n21
        case hy4n21 =>
          intro w' hSw
          go_simp
          try with_reducible rfl
        try simp only [Act.put, List.getElem_toArray, List.getElem_cons_succ, List.getElem_cons_zero, List.setIfInBounds_toArray, List.set_cons_zero, List.set_cons_succ]
        refine wpAnyH_take (i := 5) (oi := _) (v := ?v5n22) rfl (by kernel_rfl) (by kernel_rfl) (by kernel_rfl) (fun _ _ _ h => h) (Or.inl ⟨by rfl, ?hy5n22⟩) (by assumption) ?rest5n22
        case hy5n22 =>
          intro w' hSw
          go_simp
          try with_reducible rfl
        try simp only [Act.put, List.getElem_toArray, List.getElem_cons_succ, List.getElem_cons_zero, List.setIfInBounds_toArray, List.set_cons_zero, List.set_cons_succ]
        refine wpAnyH_take (i := 6) (oi := _) (v := ?v6n23) rfl (by kernel_rfl) (by kernel_rfl) (by kernel_rfl) (fun _ _ _ h => h) (Or.inl ⟨by rfl, ?hy6n23⟩) (by assumption) ?rest6n23
        case hy6n23 =>
          intro w' hSw
          go_simp
          try with_reducible rfl
        try simp only [Act.put, List.getElem_toArray, List.getElem_cons_succ, List.getElem_cons_zero, List.setIfInBounds_toArray, List.set_cons_zero, List.set_cons_succ]
        refine' wpAnyH_take (i := 7) (oi := _) (v := _) rfl (by kernel_rfl) (by kernel_rfl) (by kernel_rfl) (fun _ _ _ h => h) (yieldsIf_load_mid (by rfl) _ _ rfl _ _ rfl _ _ ?hS7n24 Tryd.underlying35 rfl HIO.out) (by assumption) ?rest7n24
        case hS7n24 =>
          intro w' hSw
          exact (range_belowS (rng_o (HA.out.at HX.out).2) hSw.below hbB)
        try simp only [Act.put, List.getElem_toArray, List.getElem_cons_succ, List.getElem_cons_zero, List.setIfInBounds_toArray, List.set_cons_zero, List.set_cons_succ]
        refine wpAnyH_take (i := 8) (oi := _) (v := ?v8n25) rfl (by kernel_rfl) (by kernel_rfl) (by kernel_rfl) (fun _ _ _ h => h) (Or.inl ⟨by rfl, ?hy8n25⟩) (by assumption) ?rest8n25
        case hy8n25 =>
          intro w' hSw
          go_simp
          try with_reducible rfl
        try simp only [Act.put, List.getElem_toArray, List.getElem_cons_succ, List.getElem_cons_zero, List.setIfInBounds_toArray, List.set_cons_zero, List.set_cons_succ]
        refine' wpAnyH_take (i := 9) (oi := _) (v := _) rfl (by kernel_rfl) (by kernel_rfl) (by kernel_rfl) (fun _ _ _ h => h) (yieldsIf_load_mid (by rfl) _ _ rfl _ _ rfl _ _ ?hS9n26 Tryd.underlying35 rfl HYN.out) (by assumption) ?rest9n26
        case hS9n26 =>
          intro w' hSw
          exact (hSw.box.n HOY.out)
        try simp only [Act.put, List.getElem_toArray, List.getElem_cons_succ, List.getElem_cons_zero, List.setIfInBounds_toArray, List.set_cons_zero, List.set_cons_succ]
        refine wpAnyH_take (i := 10) (oi := _) (v := _) rfl (by kernel_rfl) (by kernel_rfl) (by kernel_rfl) (fun _ _ _ h => h) (yieldsIf_buildS (by rfl) 116 [(0, .tmp 63), (1, .tmp 68), (2, .tmp 70)] rfl [(0, .string y.p), (1, .agg (x.o.map (Value.int .u8)).toArray), (2, .agg (y.n.map (Value.int .u8)).toArray)] rfl _ (fun w' _ => buildC y.p x.o y.n HOX.out.1.1 HOY.out.2.1 w')) (by assumption) ?rest10n27
        try simp only [Act.put, List.getElem_toArray, List.getElem_cons_succ, List.getElem_cons_zero, List.setIfInBounds_toArray, List.set_cons_zero, List.set_cons_succ]
        refine wpAnyH_ready (rs := [11]) (by kernel_rfl) (by simp) (AllReadyH.cons (o := _) rfl (fun K hK => ?_) AllReadyH.nil)
        go_simp
        with_reducible refine (rput_any sp6 N cap6 out ⟨y.p, x.o, y.n⟩ _ HG6.out HNIL.out HZOK.out hN4).mono ?_
        rintro e w6 ⟨sp7, cap7, rfl, ho7, hb7⟩
        go_wp2_with fail
        refine hK.out _ _ ((HCP5.out.next ((Below.refl w5.heap.size w5).drew)).next hb7) (fun hHeld => ?_)
        clear hK K
        try simp only [Act.put, List.getElem_toArray, List.getElem_cons_succ, List.getElem_cons_zero, List.setIfInBounds_toArray, List.set_cons_zero, List.set_cons_succ]
        refine wpAnyH_take (i := 12) (oi := _) (v := ?v12n28) rfl (by kernel_rfl) (by kernel_rfl) (by kernel_rfl) (fun _ _ _ h => h) (Or.inl ⟨by rfl, ?hy12n28⟩) (by assumption) ?rest12n28
        case hy12n28 =>
          intro w' hSw
          go_simp
          try with_reducible rfl
        try simp only [Act.put, List.getElem_toArray, List.getElem_cons_succ, List.getElem_cons_zero, List.setIfInBounds_toArray, List.set_cons_zero, List.set_cons_succ]
        refine wpAnyH_done (by kernel_rfl) ?_ _
        have HCP6 := Lib.hid (HCP5.out.next ((Below.refl w5.heap.size w5).drew))
        have HO7 := Lib.hid (ho7.base HCP6.out.below.size)
        have HB7 := Lib.hid (HCP6.out.below.trans (hb7.mono HCP6.out.below.size)); clear ho7 hb7 hHeld
        go_wp2_with fail
        go_roundw
        case rel => exact ⟨k + 1, N + 1, ins Cg.p out ⟨y.p, x.o, y.n⟩, sp7, cap7, by omega, by omega, by go_num, rfl, by show _ = _; rw [length_ins, HN.out], HO7, HST2, HB7⟩
        case measure => simp [intOf]; omega
      · have HST2 : Hid ((a.take (k + 1)).foldlM (rc1 b) [] = some out) := by
          show _ = _
          have h2 : x.o = y.n := by have := HD2.out; simpa using this
          rw [HST.out, HRC.out, if_pos h1, if_pos h2]
        clear h1
        go_wp2_with fail
        go_roundw
        case rel => exact ⟨k + 1, N, out, sp6, cap6, by omega, by omega, by go_num, rfl, HN, HCP5.out.own, HST2, HCP5.out.below⟩
        case measure => simp [intOf]; omega
  · obtain rfl : k = na := by omega
    have hd : decide ((k : Int) < (k : Int)) = false := by simp
    have HF1 : Hid (a.foldlM (rc1 b) [] = some out) := by have := HF.out; rw [List.take_of_length_le (by rw [HA.out.len]; exact Nat.le_refl _)] at this; exact this
    have HRM : Hid (rcomp a b = some (b.foldl (rc2 a) out)) := by show _ = _; unfold rcomp; rw [HF1.out]; rfl
    go_wp2_with fail
    clear hd
    obtain ⟨out0, ho0⟩ : ∃ o, o = out := ⟨_, rfl⟩
    have HRM2 : Hid (rcomp a b = some (b.foldl (rc2 a) out0)) := by rw [ho0]; exact HRM
    have HO0 := Lib.hid ho0
    clear ho0
    have hNka : N ≤ k + 0 := by omega
    go_loopw [6, 10] (fun v i wr => ∃ (j M : Nat) (o : List Cg) (sp8 : Option Addr) (cap8 : Nat), j ≤ nb ∧ M ≤ k + j ∧ i = .int .i64 j ∧ v = .slice sp8 M cap8 ∧ Hid (M = o.length) ∧ Hid (OwnC wr w.heap.size (.slice sp8 M cap8) o) ∧ Hid ((b.take j).foldl (rc2 a) out0 = o) ∧ Hid (Below w.heap.size w wr)) (fun _ i _ => nb - (intOf i).toNat)
    case atStart => exact ⟨0, N, out, sp6, cap6, Nat.zero_le _, by omega, rfl, rfl, HN, hown, by show _ = _; rw [HO0.out]; rfl, hbe⟩
    case round =>
    clear hown hbe HN
    obtain ⟨j, M, o, sp8, cap8, hj, hM, rfl, rfl, HN, hown, HG, hbe⟩ := hrel
    by_cases hltj : j < nb
    · have hd : decide ((j : Int) < (nb : Int)) = true := by simp; omega
      obtain ⟨y, hy⟩ : ∃ y, b[j]? = some y := ⟨b[j]'(by have := HBb.out.len; omega), List.getElem?_eq_getElem _⟩
      obtain ⟨b2, o2, rfl, hbB, hcap, -⟩ := HBb.out.cells (by omega)
      have HOY := Lib.hid (HBb.out.ok y (List.mem_of_getElem? hy))
      have hyp := rng_p (range_belowS (HBb.out.at hy).2 hbe.out hbB)
      have HIYc := Lib.hid (info_c HOY.out)
      have HRY := Lib.hid (fun W (hb : Below w.heap.size w W) => range_belowS (HBb.out.at hy).2 hb hbB)
      have HST : Hid ((b.take (j + 1)).foldl (rc2 a) out0 = rc2 a o y) := by show _ = _; rw [List.take_add_one, hy, List.foldl_append, HG.out]; rfl
      have p1 : (0 : Int) ≤ (j : Int) := by omega
      have p2 : (j : Int) < (nb : Int) := by omega
      have hM4 : M ≤ 400000 := by omega
      obtain ⟨r, hr⟩ : ∃ r, fd a y.p = r := ⟨_, rfl⟩
      have hfi := rfind_any spa k ca a y.p wr (HA.out.up hbe.out (Nat.le_refl _)) (by omega)
      rw [hr] at hfi
      have HFI := Lib.hid hfi; have HR := Lib.hid hr
      clear hy hr hfi
      go_wp2_with fail
      refine HFI.out.mono ?_
      rintro e w2 hres
      cases r with
      | none =>
        obtain ⟨rfl, hb2⟩ := hres
        have HO2 := Lib.hid (hown.out.below hb2)
        have HB2 := Lib.hid (hbe.out.trans (hb2.mono hbe.out.size)); clear hb2
        have HIY : Hid ((Tryd.prog.info? 116).map (·.size) = some (cgL ⟨⟨#[]⟩, zed, zed⟩).toArray.size) := by show _ = _; rw [List.size_toArray]; exact info_c zeroCg_ok
        have HIYs : Hid (65 = (cgL ⟨⟨#[]⟩, zed, zed⟩).toArray.size) := by show _ = _; rfl
        go_wp2_with (first
          | (refine wpList_store_row rfl 116 _ _ rfl w2.heap.size _ rfl rfl 116 Tryd.zeroCells116 (heap_alloc_new w2 _) HIY.out ((rfl : (Tryd.zeroCells116).size = 65).trans HIYs.out) (cgA_one _) ?_; rw [setRow_new]; generalize hw3 : World.alloc w2 _ = w3; have hcp : CpS w (.slice sp8 M cap8) o w2.heap.size ⟨⟨#[]⟩, zed, zed⟩ w3 := (by rw [← hw3]; exact ⟨HO2.out.below ((Below.refl _ _).alloc (Nat.le_refl _) _), HB2.out.trans (((Below.refl _ _).alloc (Nat.le_refl _) _).mono HB2.out.size), CgB.new w2 ⟨⟨#[]⟩, zed, zed⟩⟩); have HCP := Lib.hid hcp; clear hw3 hcp)
          | (refine wpList_load_mid rfl 116 _ rfl b2 (o2 + j * 65) rfl _ _ (HRY.out _ HCP.out.below) Tryd.underlying116 rfl HIYc.out ?_))
        refine (rput_any sp8 M cap8 o y _ (HCP.out.own.cgs HN.out.symm) HCP.out.own.nilcap HOY.out hM4).mono ?_
        rintro e w6 ⟨sp7, cap7, rfl, ho7, hb7⟩
        have HO7 := Lib.hid (ho7.base HCP.out.below.size)
        have HB7 := Lib.hid (HCP.out.below.trans (hb7.mono HCP.out.below.size)); clear ho7 hb7
        go_wp2_with fail
        go_roundw
        case rel => exact ⟨j + 1, M + 1, ins Cg.p o y, sp7, cap7, by omega, by omega, by go_num, rfl, by show _ = _; rw [length_ins, HN.out], HO7, by show _ = _; rw [HST.out, rc2_none HR.out], HB7⟩
        case measure => simp [intOf]; omega
      | some x =>
        obtain ⟨rfl, hb2⟩ := hres
        have HOX := Lib.hid (HA.out.ok x (fd_some HR.out).1)
        have HO2 := Lib.hid (hown.out.below hb2)
        have HB2 := Lib.hid (hbe.out.trans (hb2.mono hbe.out.size)); clear hb2
        have HIY : Hid ((Tryd.prog.info? 116).map (·.size) = some (cgL x).toArray.size) := by show _ = _; rw [List.size_toArray]; exact info_c HOX.out
        have HIYs : Hid (65 = (cgL x).toArray.size) := by show _ = _; rw [List.size_toArray]; exact (cgL_length HOX.out).symm
        go_wp2_with (refine wpList_store_row rfl 116 _ _ rfl w2.heap.size _ rfl rfl 116 Tryd.zeroCells116 (heap_alloc_new w2 _) HIY.out ((rfl : (Tryd.zeroCells116).size = 65).trans HIYs.out) (cgA_one _) ?_; rw [setRow_new]; generalize hw3 : World.alloc w2 _ = w3; have hcp : CpS w (.slice sp8 M cap8) o w2.heap.size x w3 := (by rw [← hw3]; exact ⟨HO2.out.below ((Below.refl _ _).alloc (Nat.le_refl _) _), HB2.out.trans (((Below.refl _ _).alloc (Nat.le_refl _) _).mono HB2.out.size), CgB.new w2 x⟩); have HCP := Lib.hid hcp; clear hw3 hcp)
        go_roundw
        case rel => exact ⟨j + 1, M, o, sp8, cap8, by omega, by omega, by go_num, rfl, HN, HCP.out.own, by show _ = _; rw [HST.out, rc2_some HR.out], HCP.out.below⟩
        case measure => simp [intOf]; omega
    · obtain rfl : j = nb := by omega
      have hd : decide ((j : Int) < (j : Int)) = false := by simp
      have HRM3 : Hid (rcomp a b = some o) := by
        have := HG.out
        rw [List.take_of_length_le (by rw [HBb.out.len]; exact Nat.le_refl _)] at this
        show _ = _
        rw [HRM2.out, this]
      by_cases h128 : 128 < M
      · have hd2 : decide ((M : Int) > 128) = true := by simp; omega
        have HS2 : Hid (sRCompose a b = .error 3) := by show _ = _; rw [HS.out, HRM3.out]; exact if_pos (by rw [← HN.out]; exact h128)
        clear h128
        go_wp2_with fail
        go_ret2
        exact resC_error HS2.out rfl hbe.out
      · have hd2 : decide ((M : Int) > 128) = false := by simp; omega
        have HS2 : Hid (sRCompose a b = .ok o) := by show _ = _; rw [HS.out, HRM3.out]; exact if_neg (by rw [← HN.out]; exact h128)
        clear h128
        go_wp2_with fail
        go_ret2
        exact resC_ok HS2.out HN.out rfl hown.out hbe.out
end Go.Proofs.YtjeiiojchlfpoaaDoor
