/-
  Stores: the walks of Audit, the program's and the reference's (lists of at most 1000000 blobs, data of at most 2^40 bytes).
-/
import Derived.Test.YtfehgkpmjnmpeaaDoorStsC
namespace Go.Proofs.YtfehgkpmjnmpeaaDoor
open Go.RowKit

theorem map_take_bp (l : List Bl) (k : Nat) : (l.map bp).take k = (l.take k).map bp := by rw [List.map_take]
set_option maxRecDepth 100000 in
set_option maxHeartbeats 2000000 in
theorem raudit_any (sp : Option Addr) (n cap : Nat) (l : List Bl) (w : World) (hl : BlsIn w w.heap.size sp n cap l) (hn : n ≤ 1000000) (hd40 : ∀ x ∈ l, x.n ≤ 1099511627776) :
    Calls Tryd.prog 14 #[.slice sp n cap] w fun e w' => ∃ g kk c, e = .returned (.slice g kk c) ∧ kk = (audP (l.map bp)).length ∧ OwnDg w' w.heap.size (.slice g kk c) (audP (l.map bp)) ∧ Below w.heap.size w w' := by
  have HL := Lib.hid hl; have HD40 := Lib.hid hd40
  clear hl hd40
  go_enter Tryd.func14, Tryd.ntmps14
  go_wp2_with fail
  go_loopw [3, 4] (fun v i wr => ∃ (k kk c : Nat) (g : Option Addr), v = .slice g kk c ∧ i = .int .i64 k ∧ k ≤ n ∧ Hid (kk = (audP ((l.map bp).take k)).length ∧ OwnDg wr w.heap.size (.slice g kk c) (audP ((l.map bp).take k)) ∧ Below w.heap.size w wr)) (fun _ i _ => n - (intOf i).toNat)
  case atStart => exact ⟨0, 0, 0, none, rfl, rfl, Nat.zero_le _, rfl, OwnDg.nil _ _, Below.refl _ _⟩
  case round =>
    obtain ⟨k, kk, c, gv, rfl, rfl, hk, H⟩ := hrel
    have HKK := Lib.hid H.out.1; have HO := Lib.hid H.out.2.1; have HBW := Lib.hid H.out.2.2
    clear H
    have HKL := Lib.hid (audP_le_k (l.map bp) k)
    by_cases hlt : k < n
    · have hd : decide ((k : Int) < (n : Int)) = true := by simp; omega
      have q0 : IntKind.i64.wrap (k : Int) = (k : Int) := IntWalk.i64_in _ (by omega)
      obtain ⟨b, off, rfl, hbB, hcap, hr⟩ := HL.out.cells (by omega)
      obtain ⟨x, hx⟩ : ∃ x, l[k]? = some x := ⟨l[k]'(by have := HL.out.len; omega), List.getElem?_eq_getElem _⟩
      have HXM := Lib.hid (List.mem_of_getElem? hx)
      have HXR := Lib.hid (range_belowG (hr k x hx) HBW.out hbB)
      have HOX := Lib.hid (HL.out.ok x HXM.out)
      have HIB := Lib.hid (info_b HOX.out)
      have HI2 : Hid ((Tryd.prog.info? 52).map (·.size) = some (blL x).toArray.size) := by show _ = _; rw [List.size_toArray]; exact HIB.out
      have HS : Hid (33 = (blL x).toArray.size) := by show _ = _; rw [List.size_toArray, blL_length HOX.out]
      have HID := Lib.hid (info_d HOX.out)
      have p1 : (0 : Int) ≤ (k : Int) := by omega
      have p2 : (k : Int) < (n : Int) := by omega
      have HBLW := Lib.hid (Nat.lt_of_lt_of_le hbB HBW.out.size)
      have HGX := Lib.hid (bp_get hx)
      have hkk : kk ≤ 1000000 := by have := HKK.out; have := HKL.out; omega
      clear hr hx
      have HX4 := Lib.hid (rngB_s (range_belowG HXR.out ((Below.refl wr.heap.size wr).drew) HBLW.out) HOX.out)
      have HXD := Lib.hid (rngB_d (range_belowG HXR.out ((Below.refl wr.heap.size wr).drew) HBLW.out))
      have HCC := Lib.hid (show Calls Tryd.prog 22 #[.slice x.sp x.n x.cap] wr.drew fun e w' => e = .returned (.agg ((shb x.b).map (Value.int .u8)).toArray) ∧ Below wr.heap.size wr.drew w' from refSum_any x.sp x.n x.cap x.b wr.drew (((HL.out.dat x HXM.out).up HBW.out.drew (Nat.le_refl _)).src) (HL.out.dat x HXM.out).nil (HD40.out x HXM.out))
      have HKEEP := Lib.hid (fun (w' : World) (hb : Below wr.heap.size wr w') => (⟨(hb.cell (p := ⟨b, off + k * 33 + 32, none⟩) HBLW.out).trans HX4.out, range_belowG (w' := w') HXD.out (B := wr.heap.size) ⟨hb.os, hb.tape, hb.output, hb.size, hb.block⟩ HBLW.out⟩ : w'.cell? ⟨b, off + k * 33 + 32, none⟩ = some (.slice x.sp x.n x.cap) ∧ w'.rangeAt b (off + k * 33) (x.d.map (Value.int .u8))))
      have he := neqD (shb x.b) x.d (shb_len _) HOX.out.1
      obtain ⟨cb, hcb⟩ : ∃ cb, decide (shb x.b = x.d) = cb := ⟨_, rfl⟩
      rw [hcb] at he
      cases cb
      · have HAD := Lib.hid (show audP ((l.map bp).take (k + 1)) = audP ((l.map bp).take k) ++ [x.d] from audP_take_add HGX.out (fun h => of_decide_eq_false hcb h.symm))
        clear hcb
        go_wp2_with fail
        refine wp_region_held_drew (S := fun w' => w'.cell? ⟨b, off + k * 33 + 32, none⟩ = some (.slice x.sp x.n x.cap) ∧ w'.rangeAt b (off + k * 33) (x.d.map (Value.int .u8))) (by kernel_rfl) ⟨HX4.out, HXD.out⟩ (fun hHeld => ?_)
        refine wpAnyH_take (i := 0) (oi := _) (v := ?v0n1) rfl (by kernel_rfl) (by kernel_rfl) (by kernel_rfl) (fun _ _ _ h => h) (Or.inl ⟨by rfl, ?hy0n1⟩) (by assumption) ?rest0n1
        case hy0n1 =>
          intro w' hSw
          go_simp
          try with_reducible rfl
        try simp only [Act.put, List.getElem_toArray, List.getElem_cons_succ, List.getElem_cons_zero, List.setIfInBounds_toArray, List.set_cons_zero, List.set_cons_succ]
        refine wpAnyH_take (i := 1) (oi := _) (v := ?v1n2) rfl (by kernel_rfl) (by kernel_rfl) (by kernel_rfl) (fun _ _ _ h => h) (Or.inl ⟨by rfl, ?hy1n2⟩) (by assumption) ?rest1n2
        case hy1n2 =>
          intro w' hSw
          go_simp
          try with_reducible rfl
        try simp only [Act.put, List.getElem_toArray, List.getElem_cons_succ, List.getElem_cons_zero, List.setIfInBounds_toArray, List.set_cons_zero, List.set_cons_succ]
        refine wpAnyH_take (i := 2) (oi := _) (v := ?v2n3) rfl (by kernel_rfl) (by kernel_rfl) (by kernel_rfl) (fun _ _ _ h => h) (Or.inl ⟨by rfl, ?hy2n3⟩) (by assumption) ?rest2n3
        case hy2n3 =>
          intro w' hSw
          go_simp
          try with_reducible rfl
        try simp only [Act.put, List.getElem_toArray, List.getElem_cons_succ, List.getElem_cons_zero, List.setIfInBounds_toArray, List.set_cons_zero, List.set_cons_succ]
        refine wpAnyH_take (i := 3) (oi := _) (v := ?v3n4) rfl (by kernel_rfl) (by kernel_rfl) (by kernel_rfl) (fun _ _ _ h => h) (Or.inl ⟨by rfl, ?hy3n4⟩) (by assumption) ?rest3n4
        case hy3n4 =>
          intro w' hSw
          go_simp
          try with_reducible rfl
        try simp only [Act.put, List.getElem_toArray, List.getElem_cons_succ, List.getElem_cons_zero, List.setIfInBounds_toArray, List.set_cons_zero, List.set_cons_succ]
        refine wpAnyH_take (i := 4) (oi := _) (v := ?v4n5) rfl (by kernel_rfl) (by kernel_rfl) (by kernel_rfl) (fun _ _ _ h => h) (Or.inl ⟨by rfl, ?hy4n5⟩) (by assumption) ?rest4n5
        case hy4n5 =>
          intro w' hSw
          have h1 := hSw.1
          go_simp
          try with_reducible rfl
        try simp only [Act.put, List.getElem_toArray, List.getElem_cons_succ, List.getElem_cons_zero, List.setIfInBounds_toArray, List.set_cons_zero, List.set_cons_succ]
        refine wpAnyH_take (i := 6) (oi := _) (v := ?v6n6) rfl (by kernel_rfl) (by kernel_rfl) (by kernel_rfl) (fun _ _ _ h => h) (Or.inl ⟨by rfl, ?hy6n6⟩) (by assumption) ?rest6n6
        case hy6n6 =>
          intro w' hSw
          go_simp
          try with_reducible rfl
        try simp only [Act.put, List.getElem_toArray, List.getElem_cons_succ, List.getElem_cons_zero, List.setIfInBounds_toArray, List.set_cons_zero, List.set_cons_succ]
        refine wpAnyH_take (i := 7) (oi := _) (v := ?v7n7) rfl (by kernel_rfl) (by kernel_rfl) (by kernel_rfl) (fun _ _ _ h => h) (Or.inl ⟨by rfl, ?hy7n7⟩) (by assumption) ?rest7n7
        case hy7n7 =>
          intro w' hSw
          go_simp
          try with_reducible rfl
        try simp only [Act.put, List.getElem_toArray, List.getElem_cons_succ, List.getElem_cons_zero, List.setIfInBounds_toArray, List.set_cons_zero, List.set_cons_succ]
        refine wpAnyH_take (i := 8) (oi := _) (v := ?v8n8) rfl (by kernel_rfl) (by kernel_rfl) (by kernel_rfl) (fun _ _ _ h => h) (Or.inl ⟨by rfl, ?hy8n8⟩) (by assumption) ?rest8n8
        case hy8n8 =>
          intro w' hSw
          go_simp
          try with_reducible rfl
        try simp only [Act.put, List.getElem_toArray, List.getElem_cons_succ, List.getElem_cons_zero, List.setIfInBounds_toArray, List.set_cons_zero, List.set_cons_succ]
        refine wpAnyH_take (i := 9) (oi := _) (v := ?v9n9) rfl (by kernel_rfl) (by kernel_rfl) (by kernel_rfl) (fun _ _ _ h => h) (Or.inl ⟨by rfl, ?hy9n9⟩) (by assumption) ?rest9n9
        case hy9n9 =>
          intro w' hSw
          go_simp
          try with_reducible rfl
        try simp only [Act.put, List.getElem_toArray, List.getElem_cons_succ, List.getElem_cons_zero, List.setIfInBounds_toArray, List.set_cons_zero, List.set_cons_succ]
        refine' wpAnyH_take (i := 10) (oi := _) (v := _) rfl (by kernel_rfl) (by kernel_rfl) (by kernel_rfl) (fun _ _ _ h => h) (yieldsIf_load_mid (by rfl) _ _ rfl _ _ rfl _ _ ?hS10n10 Tryd.underlying32 rfl HID.out) (by assumption) ?rest10n10
        case hS10n10 =>
          intro w' hSw
          exact hSw.2
        try simp only [Act.put, List.getElem_toArray, List.getElem_cons_succ, List.getElem_cons_zero, List.setIfInBounds_toArray, List.set_cons_zero, List.set_cons_succ]
        refine wpAnyH_ready (rs := [5]) (by kernel_rfl) (by simp) (AllReadyH.cons (o := _) rfl (fun K hK => ?_) AllReadyH.nil)
        go_simp
        with_reducible refine (HCC.out).mono ?_
        rintro e w3 ⟨rfl, hb3⟩
        have HB3 := Lib.hid (((Below.refl _ wr).drew).trans hb3)
        go_wp2_with fail
        refine hK.out _ _ (HKEEP.out _ (((Below.refl _ wr).drew).trans hb3)) (fun hHeld => ?_)
        clear hK K
        try simp only [Act.put, List.getElem_toArray, List.getElem_cons_succ, List.getElem_cons_zero, List.setIfInBounds_toArray, List.set_cons_zero, List.set_cons_succ]
        refine wpAnyH_take (i := 11) (oi := _) (v := ?v11n11) rfl (by kernel_rfl) (by kernel_rfl) (by kernel_rfl) (fun _ _ _ h => h) (Or.inl ⟨by rfl, ?hy11n11⟩) (by assumption) ?rest11n11
        case hy11n11 =>
          intro w' hSw
          go_simp
          try with_reducible rfl
        try simp only [Act.put, List.getElem_toArray, List.getElem_cons_succ, List.getElem_cons_zero, List.setIfInBounds_toArray, List.set_cons_zero, List.set_cons_succ]
        refine wpAnyH_done (by kernel_rfl) ?_ _
        have HBZ := Lib.hid (HBW.out.trans (HB3.out.mono HBW.out.size))
        have HO3 := Lib.hid (HO.out.below HB3.out)
        have HD3 := Lib.hid ((HKEEP.out _ HB3.out).2)
        have hx43 := (HKEEP.out _ HB3.out).1
        clear hHeld
        go_wp2_with (first
          | (refine wpList_load_mid rfl 32 _ rfl b (off + k * 33) rfl _ _ HD3.out Tryd.underlying32 rfl HID.out ?_)
          | (refine wpList_slice_eqG rfl 25 1 [(0, .tmp 28)] rfl [(0, .agg (dv x.d))] rfl _ _ (sliceDg _ x.d HOX.out) ?_; generalize hw7 : World.alloc w3 _ = w7; have hr7 : w7.rangeAt w3.heap.size 0 (x.d.map (Value.int .u8)) := (by rw [← hw7]; exact range_row (pre := []) (post := []) (heap_alloc_new w3 _) (by simp [dv]) rfl); have hb7 : Below w3.heap.size w3 w7 := (by rw [← hw7]; exact (Below.refl _ _).alloc (Nat.le_refl _) _); have HR7 := Lib.hid hr7; have HO7 := Lib.hid (HO3.out.below hb7); have HB7 := Lib.hid hb7; clear hw7 hr7 hb7)
          | (at_builtin; refine wpList_append_dg rfl (.tmp 23) (.tmp 29) rfl (w.heap.size) _ _ kk HKK.out rfl HO7.out w3.heap.size x.d rfl HR7.out HOX.out (by omega) (Nat.le_trans HBZ.out.size HB7.out.size) ?_; intro g' c' w8 HO8 HB8 HG8))
        have HB9 := Lib.hid (HBZ.out.trans ((HB7.out.mono HBZ.out.size).trans HB8.out))
        go_roundw
        case rel => exact ⟨k + 1, kk + 1, c', g', rfl, by go_num, by omega, by rw [HAD.out, List.length_append, ← HKK.out]; rfl, by rw [HAD.out]; exact HO8.out, HB9.out⟩
        case measure => simp [intOf]; omega
      · have HAD := Lib.hid (show audP ((l.map bp).take (k + 1)) = audP ((l.map bp).take k) from audP_take_skip HGX.out ((of_decide_eq_true hcb).symm))
        clear hcb
        go_wp2_with fail
        refine wp_region_held_drew (S := fun w' => w'.cell? ⟨b, off + k * 33 + 32, none⟩ = some (.slice x.sp x.n x.cap) ∧ w'.rangeAt b (off + k * 33) (x.d.map (Value.int .u8))) (by kernel_rfl) ⟨HX4.out, HXD.out⟩ (fun hHeld => ?_)
        refine wpAnyH_take (i := 0) (oi := _) (v := ?v0n12) rfl (by kernel_rfl) (by kernel_rfl) (by kernel_rfl) (fun _ _ _ h => h) (Or.inl ⟨by rfl, ?hy0n12⟩) (by assumption) ?rest0n12
        case hy0n12 =>
          intro w' hSw
          go_simp
          try with_reducible rfl
        try simp only [Act.put, List.getElem_toArray, List.getElem_cons_succ, List.getElem_cons_zero, List.setIfInBounds_toArray, List.set_cons_zero, List.set_cons_succ]
        refine wpAnyH_take (i := 1) (oi := _) (v := ?v1n13) rfl (by kernel_rfl) (by kernel_rfl) (by kernel_rfl) (fun _ _ _ h => h) (Or.inl ⟨by rfl, ?hy1n13⟩) (by assumption) ?rest1n13
        case hy1n13 =>
          intro w' hSw
          go_simp
          try with_reducible rfl
        try simp only [Act.put, List.getElem_toArray, List.getElem_cons_succ, List.getElem_cons_zero, List.setIfInBounds_toArray, List.set_cons_zero, List.set_cons_succ]
        refine wpAnyH_take (i := 2) (oi := _) (v := ?v2n14) rfl (by kernel_rfl) (by kernel_rfl) (by kernel_rfl) (fun _ _ _ h => h) (Or.inl ⟨by rfl, ?hy2n14⟩) (by assumption) ?rest2n14
        case hy2n14 =>
          intro w' hSw
          go_simp
          try with_reducible rfl
        try simp only [Act.put, List.getElem_toArray, List.getElem_cons_succ, List.getElem_cons_zero, List.setIfInBounds_toArray, List.set_cons_zero, List.set_cons_succ]
        refine wpAnyH_take (i := 3) (oi := _) (v := ?v3n15) rfl (by kernel_rfl) (by kernel_rfl) (by kernel_rfl) (fun _ _ _ h => h) (Or.inl ⟨by rfl, ?hy3n15⟩) (by assumption) ?rest3n15
        case hy3n15 =>
          intro w' hSw
          go_simp
          try with_reducible rfl
        try simp only [Act.put, List.getElem_toArray, List.getElem_cons_succ, List.getElem_cons_zero, List.setIfInBounds_toArray, List.set_cons_zero, List.set_cons_succ]
        refine wpAnyH_take (i := 4) (oi := _) (v := ?v4n16) rfl (by kernel_rfl) (by kernel_rfl) (by kernel_rfl) (fun _ _ _ h => h) (Or.inl ⟨by rfl, ?hy4n16⟩) (by assumption) ?rest4n16
        case hy4n16 =>
          intro w' hSw
          have h1 := hSw.1
          go_simp
          try with_reducible rfl
        try simp only [Act.put, List.getElem_toArray, List.getElem_cons_succ, List.getElem_cons_zero, List.setIfInBounds_toArray, List.set_cons_zero, List.set_cons_succ]
        refine wpAnyH_take (i := 6) (oi := _) (v := ?v6n17) rfl (by kernel_rfl) (by kernel_rfl) (by kernel_rfl) (fun _ _ _ h => h) (Or.inl ⟨by rfl, ?hy6n17⟩) (by assumption) ?rest6n17
        case hy6n17 =>
          intro w' hSw
          go_simp
          try with_reducible rfl
        try simp only [Act.put, List.getElem_toArray, List.getElem_cons_succ, List.getElem_cons_zero, List.setIfInBounds_toArray, List.set_cons_zero, List.set_cons_succ]
        refine wpAnyH_take (i := 7) (oi := _) (v := ?v7n18) rfl (by kernel_rfl) (by kernel_rfl) (by kernel_rfl) (fun _ _ _ h => h) (Or.inl ⟨by rfl, ?hy7n18⟩) (by assumption) ?rest7n18
        case hy7n18 =>
          intro w' hSw
          go_simp
          try with_reducible rfl
        try simp only [Act.put, List.getElem_toArray, List.getElem_cons_succ, List.getElem_cons_zero, List.setIfInBounds_toArray, List.set_cons_zero, List.set_cons_succ]
        refine wpAnyH_take (i := 8) (oi := _) (v := ?v8n19) rfl (by kernel_rfl) (by kernel_rfl) (by kernel_rfl) (fun _ _ _ h => h) (Or.inl ⟨by rfl, ?hy8n19⟩) (by assumption) ?rest8n19
        case hy8n19 =>
          intro w' hSw
          go_simp
          try with_reducible rfl
        try simp only [Act.put, List.getElem_toArray, List.getElem_cons_succ, List.getElem_cons_zero, List.setIfInBounds_toArray, List.set_cons_zero, List.set_cons_succ]
        refine wpAnyH_take (i := 9) (oi := _) (v := ?v9n20) rfl (by kernel_rfl) (by kernel_rfl) (by kernel_rfl) (fun _ _ _ h => h) (Or.inl ⟨by rfl, ?hy9n20⟩) (by assumption) ?rest9n20
        case hy9n20 =>
          intro w' hSw
          go_simp
          try with_reducible rfl
        try simp only [Act.put, List.getElem_toArray, List.getElem_cons_succ, List.getElem_cons_zero, List.setIfInBounds_toArray, List.set_cons_zero, List.set_cons_succ]
        refine' wpAnyH_take (i := 10) (oi := _) (v := _) rfl (by kernel_rfl) (by kernel_rfl) (by kernel_rfl) (fun _ _ _ h => h) (yieldsIf_load_mid (by rfl) _ _ rfl _ _ rfl _ _ ?hS10n21 Tryd.underlying32 rfl HID.out) (by assumption) ?rest10n21
        case hS10n21 =>
          intro w' hSw
          exact hSw.2
        try simp only [Act.put, List.getElem_toArray, List.getElem_cons_succ, List.getElem_cons_zero, List.setIfInBounds_toArray, List.set_cons_zero, List.set_cons_succ]
        refine wpAnyH_ready (rs := [5]) (by kernel_rfl) (by simp) (AllReadyH.cons (o := _) rfl (fun K hK => ?_) AllReadyH.nil)
        go_simp
        with_reducible refine (HCC.out).mono ?_
        rintro e w3 ⟨rfl, hb3⟩
        have HB3 := Lib.hid (((Below.refl _ wr).drew).trans hb3)
        go_wp2_with fail
        refine hK.out _ _ (HKEEP.out _ (((Below.refl _ wr).drew).trans hb3)) (fun hHeld => ?_)
        clear hK K
        try simp only [Act.put, List.getElem_toArray, List.getElem_cons_succ, List.getElem_cons_zero, List.setIfInBounds_toArray, List.set_cons_zero, List.set_cons_succ]
        refine wpAnyH_take (i := 11) (oi := _) (v := ?v11n22) rfl (by kernel_rfl) (by kernel_rfl) (by kernel_rfl) (fun _ _ _ h => h) (Or.inl ⟨by rfl, ?hy11n22⟩) (by assumption) ?rest11n22
        case hy11n22 =>
          intro w' hSw
          go_simp
          try with_reducible rfl
        try simp only [Act.put, List.getElem_toArray, List.getElem_cons_succ, List.getElem_cons_zero, List.setIfInBounds_toArray, List.set_cons_zero, List.set_cons_succ]
        refine wpAnyH_done (by kernel_rfl) ?_ _
        have HBZ := Lib.hid (HBW.out.trans (HB3.out.mono HBW.out.size))
        have HO3 := Lib.hid (HO.out.below HB3.out)
        have HD3 := Lib.hid ((HKEEP.out _ HB3.out).2)
        have hx43 := (HKEEP.out _ HB3.out).1
        clear hHeld
        go_wp2_with fail
        go_roundw
        case rel => exact ⟨k + 1, kk, c, gv, rfl, by go_num, by omega, by rw [HAD.out]; exact HKK.out, by rw [HAD.out]; exact HO3.out, HBZ.out⟩
        case measure => simp [intOf]; omega
    · obtain rfl : k = n := by omega
      have hd : decide ((k : Int) < (k : Int)) = false := by simp
      have HTK := Lib.hid (show (l.map bp).take k = l.map bp from List.take_of_length_le (by rw [List.length_map, HL.out.len]; exact Nat.le_refl _))
      go_wp2_with fail
      go_ret
      exact ⟨gv, kk, c, rfl, by have := HKK.out; rwa [HTK.out] at this, by have := HO.out; rwa [HTK.out] at this, HBW.out⟩
set_option maxRecDepth 100000 in
set_option maxHeartbeats 2000000 in
theorem audit_any (sp : Option Addr) (n cap : Nat) (l : List Bl) (w : World) (hl : BlsIn w w.heap.size sp n cap l) (hn : n ≤ 1000000) (hd40 : ∀ x ∈ l, x.n ≤ 1099511627776) (hk : KayIn w) (hk0 : 0 < w.heap.size) :
    Calls Tryd.prog 13 #[.slice sp n cap] w fun e w' => ∃ g kk c, e = .returned (.slice g kk c) ∧ kk = (audP (l.map bp)).length ∧ OwnDg w' w.heap.size (.slice g kk c) (audP (l.map bp)) ∧ Below w.heap.size w w' := by
  have HL := Lib.hid hl; have HD40 := Lib.hid hd40; have HKA := Lib.hid hk; have HK0 := Lib.hid hk0
  clear hl hd40 hk hk0
  go_enter Tryd.func13, Tryd.ntmps13
  go_wp2_with fail
  go_loopw [3, 8] (fun v i wr => ∃ (k kk c : Nat) (g : Option Addr), v = .slice g kk c ∧ i = .int .i64 k ∧ k ≤ n ∧ Hid (kk = (audP ((l.map bp).take k)).length ∧ OwnDg wr w.heap.size (.slice g kk c) (audP ((l.map bp).take k)) ∧ Below w.heap.size w wr)) (fun _ i _ => n - (intOf i).toNat)
  case atStart => exact ⟨0, 0, 0, none, rfl, rfl, Nat.zero_le _, rfl, OwnDg.nil _ _, Below.refl _ _⟩
  case round =>
    obtain ⟨k, kk, c, gv, rfl, rfl, hk, H⟩ := hrel
    have HKK := Lib.hid H.out.1; have HO := Lib.hid H.out.2.1; have HBW := Lib.hid H.out.2.2
    clear H
    have HKL := Lib.hid (audP_le_k (l.map bp) k)
    by_cases hlt : k < n
    · have hd : decide ((k : Int) < (n : Int)) = true := by simp; omega
      have q0 : IntKind.i64.wrap (k : Int) = (k : Int) := IntWalk.i64_in _ (by omega)
      obtain ⟨b, off, rfl, hbB, hcap, hr⟩ := HL.out.cells (by omega)
      obtain ⟨x, hx⟩ : ∃ x, l[k]? = some x := ⟨l[k]'(by have := HL.out.len; omega), List.getElem?_eq_getElem _⟩
      have HXM := Lib.hid (List.mem_of_getElem? hx)
      have HXR := Lib.hid (range_belowG (hr k x hx) HBW.out hbB)
      have HOX := Lib.hid (HL.out.ok x HXM.out)
      have HIB := Lib.hid (info_b HOX.out)
      have HI2 : Hid ((Tryd.prog.info? 52).map (·.size) = some (blL x).toArray.size) := by show _ = _; rw [List.size_toArray]; exact HIB.out
      have HS : Hid (33 = (blL x).toArray.size) := by show _ = _; rw [List.size_toArray, blL_length HOX.out]
      have HID := Lib.hid (info_d HOX.out)
      have p1 : (0 : Int) ≤ (k : Int) := by omega
      have p2 : (k : Int) < (n : Int) := by omega
      have HBLW := Lib.hid (Nat.lt_of_lt_of_le hbB HBW.out.size)
      have HGX := Lib.hid (bp_get hx)
      have hkk : kk ≤ 1000000 := by have := HKK.out; have := HKL.out; omega
      clear hr hx
      have he := neqD x.d (shb x.b) HOX.out.1 (shb_len _)
      obtain ⟨cb, hcb⟩ : ∃ cb, decide (x.d = shb x.b) = cb := ⟨_, rfl⟩
      rw [hcb] at he
      cases cb
      · have HAD := Lib.hid (show audP ((l.map bp).take (k + 1)) = audP ((l.map bp).take k) ++ [x.d] from audP_take_add HGX.out (fun h => of_decide_eq_false hcb h))
        clear hcb
        go_wp2_with (first
          | (refine wpList_load_mid rfl 52 _ rfl b (off + k * 33) rfl _ _ HXR.out Tryd.underlying52 rfl HIB.out ?_)
          | (refine wpList_store_row rfl 52 _ _ rfl wr.heap.size _ rfl rfl 52 _ (heap_alloc_new wr _) (by simpa using HI2.out) (by simpa using HS.out) (Array.all_eq_true_iff_forall_mem.2 (by simpa using blL_one x)) ?_; rw [setRow_new]; generalize hw2 : World.alloc wr _ = w2; have he2 : BlB w2 wr.heap.size x := (by rw [← hw2]; exact heap_alloc_new _ _); have hb2 : Below wr.heap.size wr w2 := (by rw [← hw2]; exact (Below.refl _ _).alloc (Nat.le_refl _) _); have hz2 : wr.heap.size < w2.heap.size := (by rw [← hw2]; simp); have HE2 := Lib.hid he2; have HED2 := Lib.hid he2.d; have HW2 := Lib.hid hb2; have HZ2 := Lib.hid hz2; have HO2 := Lib.hid (HO.out.below hb2); clear hw2 he2 hb2 hz2))
        have HBW2 := Lib.hid (HBW.out.trans (HW2.out.mono HBW.out.size))
        have HCC := Lib.hid (show Calls Tryd.prog 33 #[.slice x.sp x.n x.cap] w2.drew fun e w' => e = .returned (.agg ((shb x.b).map (Value.int .u8)).toArray) ∧ Below w2.heap.size w2.drew w' from Sum_any x.sp x.n x.cap x.b w2.drew (((HL.out.dat x HXM.out).up HBW2.out.drew (Nat.le_refl _)).src) (HKA.out.below HBW2.out.drew HK0.out) (Nat.lt_of_lt_of_le HK0.out HBW2.out.drew.size) (HD40.out x HXM.out))
        refine wp_region_held_drew (S := fun w' => BlB w' wr.heap.size x) (by kernel_rfl) (HE2.out.below ((Below.refl w2.heap.size w2).drew) HZ2.out) (fun hHeld => ?_)
        refine wpAnyH_take (i := 0) (oi := _) (v := ?v0n23) rfl (by kernel_rfl) (by kernel_rfl) (by kernel_rfl) (fun _ _ _ h => h) (Or.inl ⟨by rfl, ?hy0n23⟩) (by assumption) ?rest0n23
        case hy0n23 =>
          intro w' hSw
          go_simp
          try with_reducible rfl
        try simp only [Act.put, List.getElem_toArray, List.getElem_cons_succ, List.getElem_cons_zero, List.setIfInBounds_toArray, List.set_cons_zero, List.set_cons_succ]
        refine' wpAnyH_take (i := 1) (oi := _) (v := _) rfl (by kernel_rfl) (by kernel_rfl) (by kernel_rfl) (fun _ _ _ h => h) (yieldsIf_load_mid (by rfl) _ _ rfl _ _ rfl _ _ ?hS1n24 Tryd.underlying32 rfl HID.out) (by assumption) ?rest1n24
        case hS1n24 =>
          intro w' hSw
          exact hSw.d
        try simp only [Act.put, List.getElem_toArray, List.getElem_cons_succ, List.getElem_cons_zero, List.setIfInBounds_toArray, List.set_cons_zero, List.set_cons_succ]
        refine wpAnyH_take (i := 2) (oi := _) (v := ?v2n25) rfl (by kernel_rfl) (by kernel_rfl) (by kernel_rfl) (fun _ _ _ h => h) (Or.inl ⟨by rfl, ?hy2n25⟩) (by assumption) ?rest2n25
        case hy2n25 =>
          intro w' hSw
          go_simp
          try with_reducible rfl
        try simp only [Act.put, List.getElem_toArray, List.getElem_cons_succ, List.getElem_cons_zero, List.setIfInBounds_toArray, List.set_cons_zero, List.set_cons_succ]
        refine wpAnyH_take (i := 3) (oi := _) (v := ?v3n26) rfl (by kernel_rfl) (by kernel_rfl) (by kernel_rfl) (fun _ _ _ h => h) (Or.inl ⟨by rfl, ?hy3n26⟩) (by assumption) ?rest3n26
        case hy3n26 =>
          intro w' hSw
          have h1 := BlB.s hSw HOX.out
          go_simp
          try with_reducible rfl
        try simp only [Act.put, List.getElem_toArray, List.getElem_cons_succ, List.getElem_cons_zero, List.setIfInBounds_toArray, List.set_cons_zero, List.set_cons_succ]
        refine wpAnyH_ready (rs := [4]) (by kernel_rfl) (by simp) (AllReadyH.cons (o := _) rfl (fun K hK => ?_) AllReadyH.nil)
        go_simp
        with_reducible refine (HCC.out).mono ?_
        rintro e w3 ⟨rfl, hb3⟩
        have HB3 := Lib.hid (((Below.refl _ w2).drew).trans hb3)
        go_wp2_with fail
        refine hK.out _ _ ((HE2.out.below (((Below.refl w2.heap.size w2).drew).trans hb3) HZ2.out)) (fun hHeld => ?_)
        clear hK K
        try simp only [Act.put, List.getElem_toArray, List.getElem_cons_succ, List.getElem_cons_zero, List.setIfInBounds_toArray, List.set_cons_zero, List.set_cons_succ]
        refine wpAnyH_take (i := 5) (oi := _) (v := ?v5n27) rfl (by kernel_rfl) (by kernel_rfl) (by kernel_rfl) (fun _ _ _ h => h) (Or.inl ⟨by rfl, ?hy5n27⟩) (by assumption) ?rest5n27
        case hy5n27 =>
          intro w' hSw
          go_simp
          try with_reducible rfl
        try simp only [Act.put, List.getElem_toArray, List.getElem_cons_succ, List.getElem_cons_zero, List.setIfInBounds_toArray, List.set_cons_zero, List.set_cons_succ]
        refine wpAnyH_done (by kernel_rfl) ?_ _
        have HBZ := Lib.hid (HBW2.out.trans (HB3.out.mono HBW2.out.size))
        have HO3 := Lib.hid (HO2.out.below HB3.out)
        have HD3 := Lib.hid ((HE2.out.below HB3.out HZ2.out).d)
        clear hHeld
        go_wp2_with (first
          | (refine wpList_load_mid rfl 32 _ rfl wr.heap.size 0 rfl _ _ HD3.out Tryd.underlying32 rfl HID.out ?_)
          | (refine wpList_slice_eqG rfl 25 1 [(0, .tmp 20)] rfl [(0, .agg (dv x.d))] rfl _ _ (sliceDg _ x.d HOX.out) ?_; generalize hw7 : World.alloc w3 _ = w7; have hr7 : w7.rangeAt w3.heap.size 0 (x.d.map (Value.int .u8)) := (by rw [← hw7]; exact range_row (pre := []) (post := []) (heap_alloc_new w3 _) (by simp [dv]) rfl); have hb7 : Below w3.heap.size w3 w7 := (by rw [← hw7]; exact (Below.refl _ _).alloc (Nat.le_refl _) _); have HR7 := Lib.hid hr7; have HO7 := Lib.hid (HO3.out.below hb7); have HB7 := Lib.hid hb7; clear hw7 hr7 hb7)
          | (at_builtin; refine wpList_append_dg rfl (.tmp 18) (.tmp 21) rfl (w.heap.size) _ _ kk HKK.out rfl HO7.out w3.heap.size x.d rfl HR7.out HOX.out (by omega) (Nat.le_trans HBZ.out.size HB7.out.size) ?_; intro g' c' w8 HO8 HB8 HG8))
        have HB9 := Lib.hid (HBZ.out.trans ((HB7.out.mono HBZ.out.size).trans HB8.out))
        go_roundw
        case rel => exact ⟨k + 1, kk + 1, c', g', rfl, by go_num, by omega, by rw [HAD.out, List.length_append, ← HKK.out]; rfl, by rw [HAD.out]; exact HO8.out, HB9.out⟩
        case measure => simp [intOf]; omega
      · have HAD := Lib.hid (show audP ((l.map bp).take (k + 1)) = audP ((l.map bp).take k) from audP_take_skip HGX.out (of_decide_eq_true hcb))
        clear hcb
        go_wp2_with (first
          | (refine wpList_load_mid rfl 52 _ rfl b (off + k * 33) rfl _ _ HXR.out Tryd.underlying52 rfl HIB.out ?_)
          | (refine wpList_store_row rfl 52 _ _ rfl wr.heap.size _ rfl rfl 52 _ (heap_alloc_new wr _) (by simpa using HI2.out) (by simpa using HS.out) (Array.all_eq_true_iff_forall_mem.2 (by simpa using blL_one x)) ?_; rw [setRow_new]; generalize hw2 : World.alloc wr _ = w2; have he2 : BlB w2 wr.heap.size x := (by rw [← hw2]; exact heap_alloc_new _ _); have hb2 : Below wr.heap.size wr w2 := (by rw [← hw2]; exact (Below.refl _ _).alloc (Nat.le_refl _) _); have hz2 : wr.heap.size < w2.heap.size := (by rw [← hw2]; simp); have HE2 := Lib.hid he2; have HED2 := Lib.hid he2.d; have HW2 := Lib.hid hb2; have HZ2 := Lib.hid hz2; have HO2 := Lib.hid (HO.out.below hb2); clear hw2 he2 hb2 hz2))
        have HBW2 := Lib.hid (HBW.out.trans (HW2.out.mono HBW.out.size))
        have HCC := Lib.hid (show Calls Tryd.prog 33 #[.slice x.sp x.n x.cap] w2.drew fun e w' => e = .returned (.agg ((shb x.b).map (Value.int .u8)).toArray) ∧ Below w2.heap.size w2.drew w' from Sum_any x.sp x.n x.cap x.b w2.drew (((HL.out.dat x HXM.out).up HBW2.out.drew (Nat.le_refl _)).src) (HKA.out.below HBW2.out.drew HK0.out) (Nat.lt_of_lt_of_le HK0.out HBW2.out.drew.size) (HD40.out x HXM.out))
        refine wp_region_held_drew (S := fun w' => BlB w' wr.heap.size x) (by kernel_rfl) (HE2.out.below ((Below.refl w2.heap.size w2).drew) HZ2.out) (fun hHeld => ?_)
        refine wpAnyH_take (i := 0) (oi := _) (v := ?v0n28) rfl (by kernel_rfl) (by kernel_rfl) (by kernel_rfl) (fun _ _ _ h => h) (Or.inl ⟨by rfl, ?hy0n28⟩) (by assumption) ?rest0n28
        case hy0n28 =>
          intro w' hSw
          go_simp
          try with_reducible rfl
        try simp only [Act.put, List.getElem_toArray, List.getElem_cons_succ, List.getElem_cons_zero, List.setIfInBounds_toArray, List.set_cons_zero, List.set_cons_succ]
        refine' wpAnyH_take (i := 1) (oi := _) (v := _) rfl (by kernel_rfl) (by kernel_rfl) (by kernel_rfl) (fun _ _ _ h => h) (yieldsIf_load_mid (by rfl) _ _ rfl _ _ rfl _ _ ?hS1n29 Tryd.underlying32 rfl HID.out) (by assumption) ?rest1n29
        case hS1n29 =>
          intro w' hSw
          exact hSw.d
        try simp only [Act.put, List.getElem_toArray, List.getElem_cons_succ, List.getElem_cons_zero, List.setIfInBounds_toArray, List.set_cons_zero, List.set_cons_succ]
        refine wpAnyH_take (i := 2) (oi := _) (v := ?v2n30) rfl (by kernel_rfl) (by kernel_rfl) (by kernel_rfl) (fun _ _ _ h => h) (Or.inl ⟨by rfl, ?hy2n30⟩) (by assumption) ?rest2n30
        case hy2n30 =>
          intro w' hSw
          go_simp
          try with_reducible rfl
        try simp only [Act.put, List.getElem_toArray, List.getElem_cons_succ, List.getElem_cons_zero, List.setIfInBounds_toArray, List.set_cons_zero, List.set_cons_succ]
        refine wpAnyH_take (i := 3) (oi := _) (v := ?v3n31) rfl (by kernel_rfl) (by kernel_rfl) (by kernel_rfl) (fun _ _ _ h => h) (Or.inl ⟨by rfl, ?hy3n31⟩) (by assumption) ?rest3n31
        case hy3n31 =>
          intro w' hSw
          have h1 := BlB.s hSw HOX.out
          go_simp
          try with_reducible rfl
        try simp only [Act.put, List.getElem_toArray, List.getElem_cons_succ, List.getElem_cons_zero, List.setIfInBounds_toArray, List.set_cons_zero, List.set_cons_succ]
        refine wpAnyH_ready (rs := [4]) (by kernel_rfl) (by simp) (AllReadyH.cons (o := _) rfl (fun K hK => ?_) AllReadyH.nil)
        go_simp
        with_reducible refine (HCC.out).mono ?_
        rintro e w3 ⟨rfl, hb3⟩
        have HB3 := Lib.hid (((Below.refl _ w2).drew).trans hb3)
        go_wp2_with fail
        refine hK.out _ _ ((HE2.out.below (((Below.refl w2.heap.size w2).drew).trans hb3) HZ2.out)) (fun hHeld => ?_)
        clear hK K
        try simp only [Act.put, List.getElem_toArray, List.getElem_cons_succ, List.getElem_cons_zero, List.setIfInBounds_toArray, List.set_cons_zero, List.set_cons_succ]
        refine wpAnyH_take (i := 5) (oi := _) (v := ?v5n32) rfl (by kernel_rfl) (by kernel_rfl) (by kernel_rfl) (fun _ _ _ h => h) (Or.inl ⟨by rfl, ?hy5n32⟩) (by assumption) ?rest5n32
        case hy5n32 =>
          intro w' hSw
          go_simp
          try with_reducible rfl
        try simp only [Act.put, List.getElem_toArray, List.getElem_cons_succ, List.getElem_cons_zero, List.setIfInBounds_toArray, List.set_cons_zero, List.set_cons_succ]
        refine wpAnyH_done (by kernel_rfl) ?_ _
        have HBZ := Lib.hid (HBW2.out.trans (HB3.out.mono HBW2.out.size))
        have HO3 := Lib.hid (HO2.out.below HB3.out)
        have HD3 := Lib.hid ((HE2.out.below HB3.out HZ2.out).d)
        clear hHeld
        go_wp2_with fail
        go_roundw
        case rel => exact ⟨k + 1, kk, c, gv, rfl, by go_num, by omega, by rw [HAD.out]; exact HKK.out, by rw [HAD.out]; exact HO3.out, HBZ.out⟩
        case measure => simp [intOf]; omega
    · obtain rfl : k = n := by omega
      have hd : decide ((k : Int) < (k : Int)) = false := by simp
      have HTK := Lib.hid (show (l.map bp).take k = l.map bp from List.take_of_length_le (by rw [List.length_map, HL.out.len]; exact Nat.le_refl _))
      go_wp2_with fail
      go_ret
      exact ⟨gv, kk, c, rfl, by have := HKK.out; rwa [HTK.out] at this, by have := HO.out; rwa [HTK.out] at this, HBW.out⟩
end Go.Proofs.YtfehgkpmjnmpeaaDoor
