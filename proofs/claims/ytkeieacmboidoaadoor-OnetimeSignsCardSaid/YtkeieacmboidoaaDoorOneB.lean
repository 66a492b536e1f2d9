/-
  One-time signatures: the walk of the reference's Digits (condition: a digest of 32 bytes).
-/
import Derived.Test.YtkeieacmboidoaaDoorOneA
namespace Go.Proofs.YtkeieacmboidoaaDoor
open Go.RowKit Go.Proofs.YtkeieacmboidoaaDoor.One

theorem byt255 {d : List Int} (h : D32 d) {k : Nat} (hk : k < 32) : 0 ≤ d.getD k 0 ∧ d.getD k 0 ≤ 255 := by
  have hl := h.1
  have e : d.getD k 0 = d[k]'(by omega) := by rw [List.getD_eq_getElem?_getD, List.getElem?_eq_getElem (by omega)]; rfl
  have := h.2 _ (List.getElem_mem (show k < d.length by omega))
  rw [e]; omega
theorem dgt0 (x : Int) : dgt x 0 = x / 64 % 4 := rfl
theorem dgt1 (x : Int) : dgt x 1 = x / 16 % 4 := rfl
theorem dgt2 (x : Int) : dgt x 2 = x / 4 % 4 := rfl
theorem dgt3 (x : Int) : dgt x 3 = x % 4 := rfl
theorem dgt_range (x : Int) (j : Nat) (h : j < 4) : 0 ≤ dgt x j ∧ dgt x j ≤ 3 := by
  rcases (by omega : j = 0 ∨ j = 1 ∨ j = 2 ∨ j = 3) with rfl | rfl | rfl | rfl
  · rw [dgt0]; omega
  · rw [dgt1]; omega
  · rw [dgt2]; omega
  · rw [dgt3]; omega
theorem take16_snoc {d : List Int} (h : D32 d) {k : Nat} (hk : k < 16) : ((d.take 16).take (k + 1)).flatMap digB = ((d.take 16).take k).flatMap digB ++ digB (d.getD k 0) := by
  have hl := h.1
  have e := flat_snoc (d.take 16) k (by rw [List.length_take]; omega)
  rw [e, List.getD_eq_getElem?_getD, List.getD_eq_getElem?_getD, List.getElem?_take, if_pos hk]
theorem lack_flat {l : List Int} (h : l.length ≤ 16) (j : Nat) (x : Int) : 0 ≤ lack (l.flatMap digB ++ (digB x).take j) ∧ lack (l.flatMap digB ++ (digB x).take j) ≤ 204 := by
  have h1 := lack_range (l := l.flatMap digB ++ (digB x).take j) (fun y hy => by
    rcases List.mem_append.1 hy with hy | hy
    · exact flat_range hy
    · exact digB_range (List.mem_of_mem_take hy))
  rw [List.length_append, flat_length, List.length_take, digB_length] at h1
  omega

set_option maxRecDepth 100000 in
set_option maxHeartbeats 1000000 in
theorem rdigits_any (d : List Int) (hd : D32 d) (w : World) :
    Calls Tryd.prog 26 #[.agg (dgA d)] w fun e w' => ∃ sp cap, e = .returned (.slice sp 68 cap) ∧ OwnN w' w.heap.size (.slice sp 68 cap) (digs d) ∧ Below w.heap.size w w' := by
  have HD := Lib.hid hd; clear hd
  have HN := Lib.hid (heap_alloc_new w (.cells (dgA d) 37))
  have HB := Lib.hid ((Below.refl w.heap.size w).alloc (Nat.le_refl _) (.cells (dgA d) 37))
  have HZ := Lib.hid (World.size_alloc w (.cells (dgA d) 37))
  go_enter Tryd.func26, Tryd.ntmps26
  go_wp2_with fail
  generalize hw0 : World.alloc w _ = w0
  have HR0 : Hid (w0.heap[w.heap.size]? = some (.cells (dgA d) 37 (0, 0))) := by rw [← hw0]; exact HN
  have hb0 : Below w.heap.size w w0 := by rw [← hw0]; exact HB.out
  have hs0 : w.heap.size < w0.heap.size := by have := HZ.out; rw [hw0] at this; omega
  clear hw0 HN HB HZ
  generalize hbz : w.heap.size = b0 at *
  have HBZ := Lib.hid hbz; clear hbz
  go_loopw [3, 4, 5] (fun v s i wr => ∃ k : Nat, k ≤ 16 ∧ i = .int .i64 k ∧ s = .int .i64 (lack (((d.take 16).take k).flatMap digB)) ∧ Hid (OwnN wr (b0 + 1) v (((d.take 16).take k).flatMap digB)) ∧ Hid (Below (b0 + 1) w0 wr)) (fun _ _ i _ => 16 - (intOf i).toNat)
  case atStart => exact ⟨0, by omega, rfl, rfl, World.ownsRow_nil _ _ _ _, Below.refl _ _⟩
  case round =>
    rename_i v _ _
    obtain ⟨k, hk, rfl, rfl, HO, HBL⟩ := hrel
    by_cases hlt : k < 16
    · have HC0 := Lib.hid (show w0.cell? ⟨b0, k, none⟩ = some (.int .u8 (d.getD k 0)) from heap_cellO HR0.out (getD_mapD d k (by have := HD.out.1; omega)))
      have hx := byt255 HD.out (show k < 32 by omega)
      have HTK := Lib.hid (take16_snoc HD.out hlt)
      have HLT : Hid (((d.take 16).take k).length ≤ 16) := by show _ ≤ _; rw [List.length_take, List.length_take]; omega
      generalize d.getD k 0 = x at *
      generalize (d.take 16).take k = T at *
      have hd1 : decide ((k : Int) < 16) = true := by simp; omega
      have p1 : (0 : Int) ≤ (k : Int) := by omega
      have p2 : (k : Int) < 16 := by omega
      go_wp2_with fail
      go_loopw [3, 4, 6] (fun v s i w2 => ∃ j : Nat, j ≤ 4 ∧ i = .int .i64 (3 - (j : Int)) ∧ s = .int .i64 (lack (T.flatMap digB ++ (digB x).take j)) ∧ Hid (OwnN w2 (b0 + 1) v (T.flatMap digB ++ (digB x).take j)) ∧ Hid (Below (b0 + 1) w0 w2)) (fun _ _ i _ => (intOf i + 1).toNat)
      case atStart => exact ⟨0, by omega, rfl, by simp, by simpa using HO, HBL⟩
      case round =>
        rename_i v2 _ _
        obtain ⟨j, hj, rfl, rfl, HO2, HBL2⟩ := hrel
        have hc2 : wr.cell? ⟨b0, k, none⟩ = some (.int .u8 x) := (HBL2.out.cell (p := ⟨b0, k, none⟩) (by show b0 < b0 + 1; omega)).trans HC0.out
        have HL2 := Lib.hid (lack_flat HLT.out j x)
        have hlen : Hid ((T.flatMap digB ++ (digB x).take j).length ≤ 1000000000) := by
          show _ ≤ _; have := HLT.out; rw [List.length_append, flat_length, List.length_take, digB_length]; omega
        have hbs2 : b0 + 1 ≤ wr.heap.size := by have := HBL2.out.size; omega
        by_cases hj4 : j < 4
        · have HSN := Lib.hid (digB_snoc x j hj4)
          have HDR := Lib.hid (dgt_range x j hj4)
          have hd2 : decide (3 - (j : Int) ≥ 0) = true := by simp; omega
          have HS2 := Lib.hid (lack_snoc (T.flatMap digB ++ (digB x).take j) (dgt x j))
          generalize hs : lack (T.flatMap digB ++ (digB x).take j) = s at *
          have hs1 := HL2.out.1
          have hs2 := HL2.out.2
          rcases (by omega : j = 0 ∨ j = 1 ∨ j = 2 ∨ j = 3) with rfl | rfl | rfl | rfl
          · have hb : bits .and .i64 (x / 64) 3 = dgt x 0 := (and3_i64 _ (by omega)).trans rfl
            have d1 := HDR.out.1
            have d2 := HDR.out.2
            go_wp2_with (at_builtin; refine wpList_append_nv rfl (.tmp 26) (.tmp 28) rfl (b0 + 1) _ _ rfl HO2.out (dgt x 0) rfl hlen.out hbs2 ?_; intro v3 w3 HO3 HB3)
            go_roundw
            case rel => exact ⟨1, by omega, by go_num, by rw [HSN.out, ← List.append_assoc, HS2.out], by rw [HSN.out, ← List.append_assoc]; exact HO3, HBL2.out.trans (HB3.out.mono (by omega))⟩
            case measure => simp [intOf]
          · have hb : bits .and .i64 (x / 16) 3 = dgt x 1 := (and3_i64 _ (by omega)).trans rfl
            have d1 := HDR.out.1
            have d2 := HDR.out.2
            go_wp2_with (at_builtin; refine wpList_append_nv rfl (.tmp 26) (.tmp 28) rfl (b0 + 1) _ _ rfl HO2.out (dgt x 1) rfl hlen.out hbs2 ?_; intro v3 w3 HO3 HB3)
            go_roundw
            case rel => exact ⟨2, by omega, by go_num, by rw [HSN.out, ← List.append_assoc, HS2.out], by rw [HSN.out, ← List.append_assoc]; exact HO3, HBL2.out.trans (HB3.out.mono (by omega))⟩
            case measure => simp [intOf]
          · have hb : bits .and .i64 (x / 4) 3 = dgt x 2 := (and3_i64 _ (by omega)).trans rfl
            have d1 := HDR.out.1
            have d2 := HDR.out.2
            go_wp2_with (at_builtin; refine wpList_append_nv rfl (.tmp 26) (.tmp 28) rfl (b0 + 1) _ _ rfl HO2.out (dgt x 2) rfl hlen.out hbs2 ?_; intro v3 w3 HO3 HB3)
            go_roundw
            case rel => exact ⟨3, by omega, by go_num, by rw [HSN.out, ← List.append_assoc, HS2.out], by rw [HSN.out, ← List.append_assoc]; exact HO3, HBL2.out.trans (HB3.out.mono (by omega))⟩
            case measure => simp [intOf]
          · have hb : bits .and .i64 (x) 3 = dgt x 3 := (and3_i64 _ (by omega)).trans rfl
            have d1 := HDR.out.1
            have d2 := HDR.out.2
            go_wp2_with (at_builtin; refine wpList_append_nv rfl (.tmp 26) (.tmp 28) rfl (b0 + 1) _ _ rfl HO2.out (dgt x 3) rfl hlen.out hbs2 ?_; intro v3 w3 HO3 HB3)
            go_roundw
            case rel => exact ⟨4, by omega, by go_num, by rw [HSN.out, ← List.append_assoc, HS2.out], by rw [HSN.out, ← List.append_assoc]; exact HO3, HBL2.out.trans (HB3.out.mono (by omega))⟩
            case measure => simp [intOf]
        · obtain rfl : j = 4 := by omega
          have hd2 : decide (3 - ((4 : Nat) : Int) ≥ 0) = false := by simp
          have HF := Lib.hid (show (digB x).take 4 = digB x from rfl)
          go_wp2
          go_roundw
          case rel => exact ⟨k + 1, by omega, by go_num, by rw [HTK.out, HF.out], by rw [HTK.out, ← HF.out]; exact HO2, HBL2⟩
          case measure => simp [intOf]; omega
    · obtain rfl : k = 16 := by omega
      have HT := Lib.hid (show ((d.take 16).take 16).flatMap digB = dig64 d by rw [List.take_take]; rfl)
      have hl0 := lack64 HD.out.1
      rw [HT.out] at HO
      rw [HT.out]
      have HX : Hid (digs d = dig64 d ++ digB (lack (dig64 d))) := rfl
      have HL64 := Lib.hid (dig64_length HD.out.1)
      generalize dig64 d = T at *
      generalize hs : lack T = s at *
      have HS := Lib.hid hs; clear hs HT
      simp only [show ((16 : Nat) : Int) = 16 from rfl]
      go_wp2_with fail
      go_loopw [3, 8] (fun v i w2 => ∃ j : Nat, j ≤ 4 ∧ i = .int .i64 (3 - (j : Int)) ∧ Hid (OwnN w2 (b0 + 1) v (T ++ (digB s).take j)) ∧ Hid (Below (b0 + 1) w0 w2)) (fun _ i _ => (intOf i + 1).toNat)
      case atStart => exact ⟨0, by omega, rfl, by simpa using HO, HBL⟩
      case round =>
        rename_i v2 _
        obtain ⟨j, hj, rfl, HO2, HBL2⟩ := hrel
        have hlen : Hid ((T ++ (digB s).take j).length ≤ 1000000000) := by
          show _ ≤ _; have := HL64.out; rw [List.length_append, List.length_take, digB_length]; omega
        have hbs2 : b0 + 1 ≤ wr.heap.size := by have := HBL2.out.size; omega
        by_cases hj4 : j < 4
        · have HSN := Lib.hid (digB_snoc s j hj4)
          have HDR := Lib.hid (dgt_range s j hj4)
          have hd2 : decide (3 - (j : Int) ≥ 0) = true := by simp; omega
          rcases (by omega : j = 0 ∨ j = 1 ∨ j = 2 ∨ j = 3) with rfl | rfl | rfl | rfl
          · have hb : bits .and .i64 (s / 64) 3 = dgt s 0 := (and3_i64 _ (by omega)).trans rfl
            have d1 := HDR.out.1
            have d2 := HDR.out.2
            go_wp2_with (at_builtin; refine wpList_append_nv rfl (.tmp 38) (.tmp 45) rfl (b0 + 1) _ _ rfl HO2.out (dgt s 0) rfl hlen.out hbs2 ?_; intro v3 w3 HO3 HB3)
            go_roundw
            case rel => exact ⟨1, by omega, by go_num, by rw [HSN.out, ← List.append_assoc]; exact HO3, HBL2.out.trans (HB3.out.mono (by omega))⟩
            case measure => simp [intOf]
          · have hb : bits .and .i64 (s / 16) 3 = dgt s 1 := (and3_i64 _ (by omega)).trans rfl
            have d1 := HDR.out.1
            have d2 := HDR.out.2
            go_wp2_with (at_builtin; refine wpList_append_nv rfl (.tmp 38) (.tmp 45) rfl (b0 + 1) _ _ rfl HO2.out (dgt s 1) rfl hlen.out hbs2 ?_; intro v3 w3 HO3 HB3)
            go_roundw
            case rel => exact ⟨2, by omega, by go_num, by rw [HSN.out, ← List.append_assoc]; exact HO3, HBL2.out.trans (HB3.out.mono (by omega))⟩
            case measure => simp [intOf]
          · have hb : bits .and .i64 (s / 4) 3 = dgt s 2 := (and3_i64 _ (by omega)).trans rfl
            have d1 := HDR.out.1
            have d2 := HDR.out.2
            go_wp2_with (at_builtin; refine wpList_append_nv rfl (.tmp 38) (.tmp 45) rfl (b0 + 1) _ _ rfl HO2.out (dgt s 2) rfl hlen.out hbs2 ?_; intro v3 w3 HO3 HB3)
            go_roundw
            case rel => exact ⟨3, by omega, by go_num, by rw [HSN.out, ← List.append_assoc]; exact HO3, HBL2.out.trans (HB3.out.mono (by omega))⟩
            case measure => simp [intOf]
          · have hb : bits .and .i64 (s) 3 = dgt s 3 := (and3_i64 _ (by omega)).trans rfl
            have d1 := HDR.out.1
            have d2 := HDR.out.2
            go_wp2_with (at_builtin; refine wpList_append_nv rfl (.tmp 38) (.tmp 45) rfl (b0 + 1) _ _ rfl HO2.out (dgt s 3) rfl hlen.out hbs2 ?_; intro v3 w3 HO3 HB3)
            go_roundw
            case rel => exact ⟨4, by omega, by go_num, by rw [HSN.out, ← List.append_assoc]; exact HO3, HBL2.out.trans (HB3.out.mono (by omega))⟩
            case measure => simp [intOf]
        · obtain rfl : j = 4 := by omega
          have hd2 : decide (3 - ((4 : Nat) : Int) ≥ 0) = false := by simp
          have HF := Lib.hid (show (digB s).take 4 = digB s from rfl)
          obtain ⟨sp, cap, rfl⟩ := own_shapeG HO2.out
          have HN : Hid ((T ++ (digB s).take 4).length = 68) := by
            show _ = _; have := HL64.out; rw [List.length_append, List.length_take, digB_length]; omega
          rw [HN.out]
          go_wp2_with fail
          go_ret
          refine ⟨sp, cap, rfl, ?_, ?_⟩
          · rw [HX.out, ← HF.out]; have := HO2.out; rw [HN.out] at this
            rw [HBZ.out]; exact this.base (by omega)
          · rw [HBZ.out]; exact hb0.trans (HBL2.out.mono (by omega))
end Go.Proofs.YtkeieacmboidoaaDoor
