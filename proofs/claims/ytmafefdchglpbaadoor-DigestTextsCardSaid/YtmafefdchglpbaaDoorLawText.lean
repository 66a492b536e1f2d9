/-
  The walk of the statement DigestTexts: it returns true for every digest, half and string (the table of constants reads as it is laid).
-/
import Derived.Test.YtmafefdchglpbaaDoorHexJ
namespace Go.Proofs.YtmafefdchglpbaaDoor
open Go.RowKit

theorem block_below {w w' : World} {b B : Nat} {C : List Value} {t : TypeId} (h : w.heap[b]? = some (.cells C.toArray t (0, 0))) (hb : Below B w w') (hlt : b < B) : w'.heap[b]? = some (.cells C.toArray t (0, 0)) := (hb.block b hlt).trans h
theorem block_range {w : World} {b : Nat} {C : List Value} {t : TypeId} (h : w.heap[b]? = some (.cells C.toArray t (0, 0))) : w.rangeAt b 0 C := fun j v hv => by
  rw [Nat.zero_add, cell_of_row w b j _ t _ h]; simpa using hv
set_option maxRecDepth 100000 in
set_option maxHeartbeats 2000000 in
theorem texts_any (d h : List Int) (s : ByteArray) (w : World) (hd : d.length = 32) (hh : h.length = 16) (hD : Byt d) (hH : Byt h) (hs : s.size ≤ 9223372036854775807) (hk : KayIn w) (hk0 : 2 < w.heap.size) :
    Calls Tryd.prog 3 #[.agg (d.map (Value.int .u8)).toArray, .agg (h.map (Value.int .u8)).toArray, .string s] w fun e w' => e = .returned (.bool true) ∧ Below w.heap.size w w' := by
  by_cases hbig : 300 < s.size
  · go_enter Tryd.func3, Tryd.ntmps3
    go_wp2
    go_ret
    exact ⟨rfl, ((Below.refl w.heap.size w).alloc (Nat.le_refl _) _).alloc (by simp) _⟩
  have hdb : decide ((s.size : Int) > 300) = false := by simp; omega
  have HRA := Lib.hid (row_new w 23 .u8 d); have HBA := Lib.hid (below_alloc w (.cells (d.map (Value.int .u8)).toArray 23)); have HSA := Lib.hid (alloc_size w (.cells (d.map (Value.int .u8)).toArray 23))
  have HHD := Lib.hid hd; have HHH := Lib.hid hh; clear hd hh
  go_enter Tryd.func3, Tryd.ntmps3
  go_wp2_with fail
  generalize hwa : World.alloc w _ = wa
  have hra : RowIn wa w.heap.size 23 .u8 d := by rw [← hwa]; exact HRA.out
  have hba : Below w.heap.size w wa := by rw [← hwa]; exact HBA.out
  have hsa : wa.heap.size = w.heap.size + 1 := by rw [← hwa]; exact HSA.out
  clear hwa HRA HBA HSA
  have hrb := row_new wa 25 .u8 h
  have hbb := below_alloc wa (.cells (h.map (Value.int .u8)).toArray 25)
  have hsb := alloc_size wa (.cells (h.map (Value.int .u8)).toArray 25)
  generalize World.alloc wa (.cells (h.map (Value.int .u8)).toArray 25) = wb at *
  rw [hsa] at hrb
  have hra := hra.below hbb (by omega)
  have hB : Below w.heap.size w wb := hba.trans (hbb.mono (by omega))
  have hl2 : w.heap.size + 1 < wb.heap.size := by omega
  clear hba hbb hsa hsb
  have hd := HHD.out; have hh := HHH.out
  have hcA : ∀ wz, Below wb.heap.size wb wz → ∀ w5, Below wz.heap.size wz w5 → Calls Tryd.prog 13 #[] w5 fun e w' => e = .returned (.bool true) ∧ Below wz.heap.size wz w' := fun wz hz w5 hb5 =>
    (awake_any w5 (hk.below (hB.trans ((hz.trans (hb5.mono hz.size)).mono hB.size)) hk0) (by have := hb5.size; have := hz.size; have := hB.size; omega)).mono fun e w' ⟨he, hb⟩ => ⟨he, hb5.trans (hb.mono hb5.size)⟩
  obtain ⟨FD, hFD⟩ : ∃ F : ByteArray, F = ⟨([115, 104, 97, 50, 53, 54, 58] ++ hexB d).toArray⟩ := ⟨_, rfl⟩
  obtain ⟨FH, hFH⟩ : ∃ F : ByteArray, F = ⟨(hexB h).toArray⟩ := ⟨_, rfl⟩
  have hcF : ∀ wz w5, Below wz.heap.size wz w5 → Calls Tryd.prog 14 #[.agg (d.map (Value.int .u8)).toArray] w5 fun e w' => e = .returned (.string FD) ∧ Below wz.heap.size wz w' := fun wz w5 hb5 =>
    (Format_any d w5 hd hD).mono fun e w' ⟨he, hb⟩ => ⟨by rw [he, hFD], hb5.trans (hb.mono hb5.size)⟩
  have hcF2 : ∀ wz w5, Below wz.heap.size wz w5 → Calls Tryd.prog 15 #[.agg (d.map (Value.int .u8)).toArray] w5 fun e w' => e = .returned (.string FD) ∧ Below wz.heap.size wz w' := fun wz w5 hb5 =>
    (refFormat_any d w5 hd hD).mono fun e w' ⟨he, hb⟩ => ⟨by rw [he, hFD], hb5.trans (hb.mono hb5.size)⟩
  have hcG : ∀ wz w5, Below wz.heap.size wz w5 → Calls Tryd.prog 16 #[.agg (h.map (Value.int .u8)).toArray] w5 fun e w' => e = .returned (.string FH) ∧ Below wz.heap.size wz w' := fun wz w5 hb5 =>
    (FormatHalf_any h w5 hh hH).mono fun e w' ⟨he, hb⟩ => ⟨by rw [he, hFH], hb5.trans (hb.mono hb5.size)⟩
  have hcG2 : ∀ wz w5, Below wz.heap.size wz w5 → Calls Tryd.prog 17 #[.agg (h.map (Value.int .u8)).toArray] w5 fun e w' => e = .returned (.string FH) ∧ Below wz.heap.size wz w' := fun wz w5 hb5 =>
    (refFormatHalf_any h w5 hh hH).mono fun e w' ⟨he, hb⟩ => ⟨by rw [he, hFH], hb5.trans (hb.mono hb5.size)⟩
  have hcS : ∀ w5, Below wb.heap.size wb w5 → Calls Tryd.prog 9 #[.string s] w5 fun e w' => e = .returned (.tuple #[.agg ((ppby s.data.toList).map (Value.int .u8)).toArray, .bool (ppok s.data.toList)]) ∧ Below w5.heap.size w5 w' ∧ Below wb.heap.size wb w' := fun w5 hb5 =>
    (Parse_any s w5 hs).mono fun e w' ⟨he, hb⟩ => ⟨he, hb, hb5.trans (hb.mono hb5.size)⟩
  have hcS2 : ∀ w5, Below wb.heap.size wb w5 → Calls Tryd.prog 10 #[.string s] w5 fun e w' => e = .returned (.tuple #[.agg ((ppby s.data.toList).map (Value.int .u8)).toArray, .bool (ppok s.data.toList)]) ∧ Below w5.heap.size w5 w' ∧ Below wb.heap.size wb w' := fun w5 hb5 =>
    (refParse_any s w5).mono fun e w' ⟨he, hb⟩ => ⟨he, hb, hb5.trans (hb.mono hb5.size)⟩
  have hcT : ∀ w5, Below wb.heap.size wb w5 → Calls Tryd.prog 11 #[.string s] w5 fun e w' => e = .returned (.tuple #[.agg ((pby s.data.toList 16).map (Value.int .u8)).toArray, .bool (pok s.data.toList 16)]) ∧ Below w5.heap.size w5 w' ∧ Below wb.heap.size wb w' := fun w5 hb5 =>
    (ParseHalf_any s w5).mono fun e w' ⟨he, hb⟩ => ⟨he, hb, hb5.trans (hb.mono hb5.size)⟩
  have hcT2 : ∀ w5, Below wb.heap.size wb w5 → Calls Tryd.prog 12 #[.string s] w5 fun e w' => e = .returned (.tuple #[.agg ((pby s.data.toList 16).map (Value.int .u8)).toArray, .bool (pok s.data.toList 16)]) ∧ Below w5.heap.size w5 w' ∧ Below wb.heap.size wb w' := fun w5 hb5 =>
    (refParseHalf_any s w5).mono fun e w' ⟨he, hb⟩ => ⟨he, hb, hb5.trans (hb.mono hb5.size)⟩
  have LS := ppby_length s.data.toList
  have LT := pby_length s.data.toList 16
  have heS := eql_digest _ _ LS LS
  have heT := eql_half _ _ LT LT
  rw [decide_eq_true rfl] at heS heT
  have hiD : (Tryd.prog.info? 23).map (·.size) = some (d.map (Value.int .u8)).length := by rw [List.length_map, hd]; exact Tryd.info25d
  have hiH : (Tryd.prog.info? 25).map (·.size) = some (h.map (Value.int .u8)).length := by rw [List.length_map, hh]; exact Tryd.info30h
  have hiS : (Tryd.prog.info? 23).map (·.size) = some ((ppby s.data.toList).map (Value.int .u8)).length := by rw [List.length_map, LS]; exact Tryd.info25d
  have hiT : (Tryd.prog.info? 25).map (·.size) = some ((pby s.data.toList 16).map (Value.int .u8)).length := by rw [List.length_map, LT]; exact Tryd.info30h
  have hoD := one_map .u8 d
  have hoH := one_map .u8 h
  have hoS := one_map .u8 (ppby s.data.toList)
  have hoT := one_map .u8 (pby s.data.toList 16)
  have huD := Tryd.underlying23
  have huH := Tryd.underlying25
  have HIS := Lib.hid (row_info32 _ LS); have HISs : Hid (32 = (((ppby s.data.toList).map (Value.int .u8)).toArray).size) := by show _ = _; simp [LS]
  have HISo := Lib.hid (oneCell_map .u8 (ppby s.data.toList))
  have HIT := Lib.hid (row_info16 _ LT); have HITs : Hid (16 = (((pby s.data.toList 16).map (Value.int .u8)).toArray).size) := by show _ = _; simp [LT]
  have HITo := Lib.hid (oneCell_map .u8 (pby s.data.toList 16))
  have hrD : wb.heap[w.heap.size]? = some (.cells (d.map (Value.int .u8)).toArray 23 (0, 0)) := hra
  have hrH : wb.heap[w.heap.size + 1]? = some (.cells (h.map (Value.int .u8)).toArray 25 (0, 0)) := hrb
  clear LS LT hra hrb
  generalize d.map (Value.int .u8) = CD at *
  generalize h.map (Value.int .u8) = CH at *
  generalize (ppby s.data.toList).map (Value.int .u8) = CS at *
  generalize (pby s.data.toList 16).map (Value.int .u8) = CT at *
  generalize ppok s.data.toList = b1 at *
  generalize pok s.data.toList 16 = b2 at *
  have HCA := Lib.hid hcA; have HCF := Lib.hid hcF; have HCF2 := Lib.hid hcF2; have HCG := Lib.hid hcG; have HCG2 := Lib.hid hcG2; have HCS := Lib.hid hcS; have HCS2 := Lib.hid hcS2; have HCT := Lib.hid hcT; have HCT2 := Lib.hid hcT2
  have HB := Lib.hid hB; have HRD := Lib.hid hrD; have HRH := Lib.hid hrH
  have HES := Lib.hid heS; have HET := Lib.hid heT
  have HID := Lib.hid hiD; have HIH := Lib.hid hiH; have HIS2 := Lib.hid hiS; have HIT2 := Lib.hid hiT
  have hb0 : Below wb.heap.size wb wb := Below.refl _ _
  clear hcA hcF hcF2 hcG hcG2 hcS hcS2 hcT hcT2 hk hk0 hFH hFD hd hh hD hH hs hB hrD hrH heS heT hiD hiH hiS hiT HHD HHH
  refine (HCS.out _ hb0).mono ?_
  rintro e w5 ⟨rfl, l5, b5⟩
  go_wp2_with (refine wpList_store_row rfl 23 _ _ rfl w5.heap.size _ rfl rfl 23 _ (heap_alloc_new w5 _) HIS.out (by simpa using HISs.out) HISo.out ?_; generalize hv : World.setRow _ _ _ = v5; have rv5 : v5.heap[w5.heap.size]? = some (.cells CS.toArray 23 (0, 0)) := (by rw [← hv]; exact setRow_heap _ _ _ _ _ _ (heap_alloc_new w5 _)); have kv5 : Below w5.heap.size w5 v5 := (by rw [← hv]; exact below_setRow ((Below.refl _ _).alloc (Nat.le_refl _) _) (Nat.le_refl _) _); clear hv; have bv5 := b5.trans (kv5.mono b5.size); have zv5 := (Array.getElem?_eq_some_iff.1 rv5).1; have Rv5 := Lib.hid rv5; have Kv5 := Lib.hid kv5; clear rv5 kv5)
  refine (HCS2.out _ bv5).mono ?_
  rintro e w6 ⟨rfl, l6, b6⟩
  go_wp2_with (refine wpList_store_row rfl 23 _ _ rfl w6.heap.size _ rfl rfl 23 _ (heap_alloc_new w6 _) HIS.out (by simpa using HISs.out) HISo.out ?_; generalize hv : World.setRow _ _ _ = v6; have rv6 : v6.heap[w6.heap.size]? = some (.cells CS.toArray 23 (0, 0)) := (by rw [← hv]; exact setRow_heap _ _ _ _ _ _ (heap_alloc_new w6 _)); have kv6 : Below w6.heap.size w6 v6 := (by rw [← hv]; exact below_setRow ((Below.refl _ _).alloc (Nat.le_refl _) _) (Nat.le_refl _) _); clear hv; have bv6 := b6.trans (kv6.mono b6.size); have zv6 := (Array.getElem?_eq_some_iff.1 rv6).1; have Rv6 := Lib.hid rv6; have Kv6 := Lib.hid kv6; clear rv6 kv6)
  refine (HCT.out _ bv6).mono ?_
  rintro e w7 ⟨rfl, l7, b7⟩
  go_wp2_with (refine wpList_store_row rfl 25 _ _ rfl w7.heap.size _ rfl rfl 25 _ (heap_alloc_new w7 _) HIT.out (by simpa using HITs.out) HITo.out ?_; generalize hv : World.setRow _ _ _ = v7; have rv7 : v7.heap[w7.heap.size]? = some (.cells CT.toArray 25 (0, 0)) := (by rw [← hv]; exact setRow_heap _ _ _ _ _ _ (heap_alloc_new w7 _)); have kv7 : Below w7.heap.size w7 v7 := (by rw [← hv]; exact below_setRow ((Below.refl _ _).alloc (Nat.le_refl _) _) (Nat.le_refl _) _); clear hv; have bv7 := b7.trans (kv7.mono b7.size); have zv7 := (Array.getElem?_eq_some_iff.1 rv7).1; have Rv7 := Lib.hid rv7; have Kv7 := Lib.hid kv7; clear rv7 kv7)
  refine (HCT2.out _ bv7).mono ?_
  rintro e w8 ⟨rfl, l8, b8⟩
  go_wp2_with (refine wpList_store_row rfl 25 _ _ rfl w8.heap.size _ rfl rfl 25 _ (heap_alloc_new w8 _) HIT.out (by simpa using HITs.out) HITo.out ?_; generalize hv : World.setRow _ _ _ = v8; have rv8 : v8.heap[w8.heap.size]? = some (.cells CT.toArray 25 (0, 0)) := (by rw [← hv]; exact setRow_heap _ _ _ _ _ _ (heap_alloc_new w8 _)); have kv8 : Below w8.heap.size w8 v8 := (by rw [← hv]; exact below_setRow ((Below.refl _ _).alloc (Nat.le_refl _) _) (Nat.le_refl _) _); clear hv; have bv8 := b8.trans (kv8.mono b8.size); have zv8 := (Array.getElem?_eq_some_iff.1 rv8).1; have Rv8 := Lib.hid rv8; have Kv8 := Lib.hid kv8; clear rv8 kv8)
  have k56 := l6.trans (Kv6.out.mono l6.size)
  have k67 := l7.trans (Kv7.out.mono l7.size)
  have k78 := l8.trans (Kv8.out.mono l8.size)
  have k68 := k67.trans (k78.mono k67.size)
  have k58 := k56.trans (k68.mono k56.size)
  have z58 := k58.size; have z68 := k68.size; have z78 := k78.size; have zb8 := bv8.size
  have HALL : Hid (∀ w', Below v8.heap.size v8 w' → w'.rangeAt w.heap.size 0 CD ∧ w'.rangeAt (w.heap.size + 1) 0 CH ∧ w'.rangeAt w5.heap.size 0 CS ∧ w'.rangeAt w6.heap.size 0 CS ∧ w'.rangeAt w7.heap.size 0 CT ∧ w'.rangeAt w8.heap.size 0 CT) := fun w' hb =>
    ⟨block_range (block_below (block_below HRD.out bv8 (by omega)) hb (by omega)), block_range (block_below (block_below HRH.out bv8 (by omega)) hb (by omega)),
      block_range (block_below (block_below Rv5.out k58 zv5) hb (by omega)), block_range (block_below (block_below Rv6.out k68 zv6) hb (by omega)),
      block_range (block_below (block_below Rv7.out k78 zv7) hb (by omega)), block_range (block_below Rv8.out hb zv8)⟩
  have hzd : Below v8.heap.size v8 v8.drew := (Below.refl _ _).drew
  have BV8 := Lib.hid bv8
  have HCA8 := Lib.hid (HCA.out v8 bv8)
  have hES := HES.out; have hET := HET.out
  have hi1 := HID.out; have hi2 := HIH.out; have hi3 := HIS2.out; have hi4 := HIT2.out
  clear k56 k67 k78 k68 k58 z58 z68 z78 zb8 b5 b6 b7 b8 l5 l6 l7 l8 bv5 bv6 bv7 bv8 zv5 zv6 zv7 zv8 hb0
  refine wp_region_held_drew (S := fun w' => w'.rangeAt w.heap.size 0 CD ∧ w'.rangeAt (w.heap.size + 1) 0 CH ∧ w'.rangeAt w5.heap.size 0 CS ∧ w'.rangeAt w6.heap.size 0 CS ∧ w'.rangeAt w7.heap.size 0 CT ∧ w'.rangeAt w8.heap.size 0 CT) (by kernel_rfl) (HALL.out _ hzd) (fun hHeld => ?_)
  refine wpAnyH_ready (rs := [0]) (by kernel_rfl) (by simp) (AllReadyH.cons (o := _) rfl (fun K hK => ?_) AllReadyH.nil)
  go_simp
  go_at_call 13
  with_reducible refine (HCA8.out _ hzd).mono ?_
  rintro e w9 ⟨rfl, c9⟩
  refine hK.out _ _ (HALL.out _ c9) (fun hHeld => ?_)
  clear hK K
  try simp only [Act.put, List.getElem_toArray, List.getElem_cons_succ, List.getElem_cons_zero, List.setIfInBounds_toArray, List.set_cons_zero, List.set_cons_succ]
  refine wpAnyH_take (i := 1) (oi := _) (v := ?v1) rfl (by kernel_rfl) (by kernel_rfl) (by kernel_rfl) (fun _ _ _ h => h) (Or.inl ⟨by rfl, ?hy1⟩) (by assumption) ?rest1
  case hy1 =>
    intro w' hSw
    go_simp
    try with_reducible rfl
  try simp only [Act.put, List.getElem_toArray, List.getElem_cons_succ, List.getElem_cons_zero, List.setIfInBounds_toArray, List.set_cons_zero, List.set_cons_succ]
  refine' wpAnyH_take (i := 2) (oi := _) (v := _) rfl (by kernel_rfl) (by kernel_rfl) (by kernel_rfl) (fun _ _ _ h => h) (yieldsIf_load_mid (by rfl) _ _ rfl _ _ rfl _ _ ?hS2 huD rfl hi1) (by assumption) ?rest2
  case hS2 =>
    intro w' hSw
    exact hSw.1
  try simp only [Act.put, List.getElem_toArray, List.getElem_cons_succ, List.getElem_cons_zero, List.setIfInBounds_toArray, List.set_cons_zero, List.set_cons_succ]
  refine' wpAnyH_take (i := 4) (oi := _) (v := _) rfl (by kernel_rfl) (by kernel_rfl) (by kernel_rfl) (fun _ _ _ h => h) (yieldsIf_load_mid (by rfl) _ _ rfl _ _ rfl _ _ ?hS4 huD rfl hi1) (by assumption) ?rest4
  case hS4 =>
    intro w' hSw
    exact hSw.1
  try simp only [Act.put, List.getElem_toArray, List.getElem_cons_succ, List.getElem_cons_zero, List.setIfInBounds_toArray, List.set_cons_zero, List.set_cons_succ]
  refine wpAnyH_ready (rs := [3]) (by kernel_rfl) (by simp) (AllReadyH.cons (o := _) rfl (fun K hK => ?_) AllReadyH.nil)
  go_simp
  go_at_call 14
  with_reducible refine (HCF.out v8 _ c9).mono ?_
  rintro e w10 ⟨rfl, c10⟩
  refine hK.out _ _ (HALL.out _ c10) (fun hHeld => ?_)
  clear hK K
  try simp only [Act.put, List.getElem_toArray, List.getElem_cons_succ, List.getElem_cons_zero, List.setIfInBounds_toArray, List.set_cons_zero, List.set_cons_succ]
  refine wpAnyH_ready (rs := [5]) (by kernel_rfl) (by simp) (AllReadyH.cons (o := _) rfl (fun K hK => ?_) AllReadyH.nil)
  go_simp
  go_at_call 15
  with_reducible refine (HCF2.out v8 _ c10).mono ?_
  rintro e w11 ⟨rfl, c11⟩
  refine hK.out _ _ (HALL.out _ c11) (fun hHeld => ?_)
  clear hK K
  try simp only [Act.put, List.getElem_toArray, List.getElem_cons_succ, List.getElem_cons_zero, List.setIfInBounds_toArray, List.set_cons_zero, List.set_cons_succ]
  refine wpAnyH_take (i := 6) (oi := _) (v := ?v6) rfl (by kernel_rfl) (by kernel_rfl) (by kernel_rfl) (fun _ _ _ h => h) (Or.inl ⟨by rfl, ?hy6⟩) (by assumption) ?rest6
  case hy6 =>
    intro w' hSw
    go_simp
    try with_reducible rfl
  try simp only [Act.put, List.getElem_toArray, List.getElem_cons_succ, List.getElem_cons_zero, List.setIfInBounds_toArray, List.set_cons_zero, List.set_cons_succ]
  refine wpAnyH_take (i := 7) (oi := _) (v := ?v7) rfl (by kernel_rfl) (by kernel_rfl) (by kernel_rfl) (fun _ _ _ h => h) (Or.inl ⟨by rfl, ?hy7⟩) (by assumption) ?rest7
  case hy7 =>
    intro w' hSw
    go_simp
    try with_reducible rfl
  try simp only [Act.put, List.getElem_toArray, List.getElem_cons_succ, List.getElem_cons_zero, List.setIfInBounds_toArray, List.set_cons_zero, List.set_cons_succ]
  refine wpAnyH_take (i := 8) (oi := _) (v := ?v8) rfl (by kernel_rfl) (by kernel_rfl) (by kernel_rfl) (fun _ _ _ h => h) (Or.inl ⟨by rfl, ?hy8⟩) (by assumption) ?rest8
  case hy8 =>
    intro w' hSw
    go_simp
    try with_reducible rfl
  try simp only [Act.put, List.getElem_toArray, List.getElem_cons_succ, List.getElem_cons_zero, List.setIfInBounds_toArray, List.set_cons_zero, List.set_cons_succ]
  refine' wpAnyH_take (i := 9) (oi := _) (v := _) rfl (by kernel_rfl) (by kernel_rfl) (by kernel_rfl) (fun _ _ _ h => h) (yieldsIf_load_mid (by rfl) _ _ rfl _ _ rfl _ _ ?hS9 huH rfl hi2) (by assumption) ?rest9
  case hS9 =>
    intro w' hSw
    exact hSw.2.1
  try simp only [Act.put, List.getElem_toArray, List.getElem_cons_succ, List.getElem_cons_zero, List.setIfInBounds_toArray, List.set_cons_zero, List.set_cons_succ]
  refine' wpAnyH_take (i := 11) (oi := _) (v := _) rfl (by kernel_rfl) (by kernel_rfl) (by kernel_rfl) (fun _ _ _ h => h) (yieldsIf_load_mid (by rfl) _ _ rfl _ _ rfl _ _ ?hS11 huH rfl hi2) (by assumption) ?rest11
  case hS11 =>
    intro w' hSw
    exact hSw.2.1
  try simp only [Act.put, List.getElem_toArray, List.getElem_cons_succ, List.getElem_cons_zero, List.setIfInBounds_toArray, List.set_cons_zero, List.set_cons_succ]
  refine wpAnyH_ready (rs := [10]) (by kernel_rfl) (by simp) (AllReadyH.cons (o := _) rfl (fun K hK => ?_) AllReadyH.nil)
  go_simp
  go_at_call 16
  with_reducible refine (HCG.out v8 _ c11).mono ?_
  rintro e w12 ⟨rfl, c12⟩
  refine hK.out _ _ (HALL.out _ c12) (fun hHeld => ?_)
  clear hK K
  try simp only [Act.put, List.getElem_toArray, List.getElem_cons_succ, List.getElem_cons_zero, List.setIfInBounds_toArray, List.set_cons_zero, List.set_cons_succ]
  refine wpAnyH_ready (rs := [12]) (by kernel_rfl) (by simp) (AllReadyH.cons (o := _) rfl (fun K hK => ?_) AllReadyH.nil)
  go_simp
  go_at_call 17
  with_reducible refine (HCG2.out v8 _ c12).mono ?_
  rintro e w13 ⟨rfl, c13⟩
  refine hK.out _ _ (HALL.out _ c13) (fun hHeld => ?_)
  clear hK K
  try simp only [Act.put, List.getElem_toArray, List.getElem_cons_succ, List.getElem_cons_zero, List.setIfInBounds_toArray, List.set_cons_zero, List.set_cons_succ]
  refine wpAnyH_take (i := 13) (oi := _) (v := ?v13) rfl (by kernel_rfl) (by kernel_rfl) (by kernel_rfl) (fun _ _ _ h => h) (Or.inl ⟨by rfl, ?hy13⟩) (by assumption) ?rest13
  case hy13 =>
    intro w' hSw
    go_simp
    try with_reducible rfl
  try simp only [Act.put, List.getElem_toArray, List.getElem_cons_succ, List.getElem_cons_zero, List.setIfInBounds_toArray, List.set_cons_zero, List.set_cons_succ]
  refine wpAnyH_take (i := 14) (oi := _) (v := ?v14) rfl (by kernel_rfl) (by kernel_rfl) (by kernel_rfl) (fun _ _ _ h => h) (Or.inl ⟨by rfl, ?hy14⟩) (by assumption) ?rest14
  case hy14 =>
    intro w' hSw
    go_simp
    try with_reducible rfl
  try simp only [Act.put, List.getElem_toArray, List.getElem_cons_succ, List.getElem_cons_zero, List.setIfInBounds_toArray, List.set_cons_zero, List.set_cons_succ]
  refine wpAnyH_take (i := 15) (oi := _) (v := ?v15) rfl (by kernel_rfl) (by kernel_rfl) (by kernel_rfl) (fun _ _ _ h => h) (Or.inl ⟨by rfl, ?hy15⟩) (by assumption) ?rest15
  case hy15 =>
    intro w' hSw
    go_simp
    try with_reducible rfl
  try simp only [Act.put, List.getElem_toArray, List.getElem_cons_succ, List.getElem_cons_zero, List.setIfInBounds_toArray, List.set_cons_zero, List.set_cons_succ]
  refine' wpAnyH_take (i := 16) (oi := _) (v := _) rfl (by kernel_rfl) (by kernel_rfl) (by kernel_rfl) (fun _ _ _ h => h) (yieldsIf_load_mid (by rfl) _ _ rfl _ _ rfl _ _ ?hS16 huD rfl hi3) (by assumption) ?rest16
  case hS16 =>
    intro w' hSw
    exact hSw.2.2.1
  try simp only [Act.put, List.getElem_toArray, List.getElem_cons_succ, List.getElem_cons_zero, List.setIfInBounds_toArray, List.set_cons_zero, List.set_cons_succ]
  refine' wpAnyH_take (i := 17) (oi := _) (v := _) rfl (by kernel_rfl) (by kernel_rfl) (by kernel_rfl) (fun _ _ _ h => h) (yieldsIf_load_mid (by rfl) _ _ rfl _ _ rfl _ _ ?hS17 huD rfl hi3) (by assumption) ?rest17
  case hS17 =>
    intro w' hSw
    exact hSw.2.2.2.1
  try simp only [Act.put, List.getElem_toArray, List.getElem_cons_succ, List.getElem_cons_zero, List.setIfInBounds_toArray, List.set_cons_zero, List.set_cons_succ]
  refine wpAnyH_take (i := 18) (oi := _) (v := ?v18) rfl (by kernel_rfl) (by kernel_rfl) (by kernel_rfl) (fun _ _ _ h => h) (Or.inl ⟨by rfl, ?hy18⟩) (by assumption) ?rest18
  case hy18 =>
    intro w' hSw
    go_simp
    try with_reducible rfl
  try simp only [Act.put, List.getElem_toArray, List.getElem_cons_succ, List.getElem_cons_zero, List.setIfInBounds_toArray, List.set_cons_zero, List.set_cons_succ]
  refine wpAnyH_take (i := 19) (oi := _) (v := ?v19) rfl (by kernel_rfl) (by kernel_rfl) (by kernel_rfl) (fun _ _ _ h => h) (Or.inl ⟨by rfl, ?hy19⟩) (by assumption) ?rest19
  case hy19 =>
    intro w' hSw
    go_simp
    try with_reducible rfl
  try simp only [Act.put, List.getElem_toArray, List.getElem_cons_succ, List.getElem_cons_zero, List.setIfInBounds_toArray, List.set_cons_zero, List.set_cons_succ]
  refine wpAnyH_take (i := 20) (oi := _) (v := ?v20) rfl (by kernel_rfl) (by kernel_rfl) (by kernel_rfl) (fun _ _ _ h => h) (Or.inl ⟨by rfl, ?hy20⟩) (by assumption) ?rest20
  case hy20 =>
    intro w' hSw
    go_simp
    try with_reducible rfl
  try simp only [Act.put, List.getElem_toArray, List.getElem_cons_succ, List.getElem_cons_zero, List.setIfInBounds_toArray, List.set_cons_zero, List.set_cons_succ]
  refine wpAnyH_take (i := 21) (oi := _) (v := ?v21) rfl (by kernel_rfl) (by kernel_rfl) (by kernel_rfl) (fun _ _ _ h => h) (Or.inl ⟨by rfl, ?hy21⟩) (by assumption) ?rest21
  case hy21 =>
    intro w' hSw
    go_simp
    try with_reducible rfl
  try simp only [Act.put, List.getElem_toArray, List.getElem_cons_succ, List.getElem_cons_zero, List.setIfInBounds_toArray, List.set_cons_zero, List.set_cons_succ]
  refine wpAnyH_take (i := 22) (oi := _) (v := ?v22) rfl (by kernel_rfl) (by kernel_rfl) (by kernel_rfl) (fun _ _ _ h => h) (Or.inl ⟨by rfl, ?hy22⟩) (by assumption) ?rest22
  case hy22 =>
    intro w' hSw
    go_simp
    try with_reducible rfl
  try simp only [Act.put, List.getElem_toArray, List.getElem_cons_succ, List.getElem_cons_zero, List.setIfInBounds_toArray, List.set_cons_zero, List.set_cons_succ]
  refine wpAnyH_take (i := 23) (oi := _) (v := ?v23) rfl (by kernel_rfl) (by kernel_rfl) (by kernel_rfl) (fun _ _ _ h => h) (Or.inl ⟨by rfl, ?hy23⟩) (by assumption) ?rest23
  case hy23 =>
    intro w' hSw
    go_simp
    try with_reducible rfl
  try simp only [Act.put, List.getElem_toArray, List.getElem_cons_succ, List.getElem_cons_zero, List.setIfInBounds_toArray, List.set_cons_zero, List.set_cons_succ]
  refine wpAnyH_take (i := 24) (oi := _) (v := ?v24) rfl (by kernel_rfl) (by kernel_rfl) (by kernel_rfl) (fun _ _ _ h => h) (Or.inl ⟨by rfl, ?hy24⟩) (by assumption) ?rest24
  case hy24 =>
    intro w' hSw
    go_simp
    try with_reducible rfl
  try simp only [Act.put, List.getElem_toArray, List.getElem_cons_succ, List.getElem_cons_zero, List.setIfInBounds_toArray, List.set_cons_zero, List.set_cons_succ]
  refine wpAnyH_take (i := 25) (oi := _) (v := ?v25) rfl (by kernel_rfl) (by kernel_rfl) (by kernel_rfl) (fun _ _ _ h => h) (Or.inl ⟨by rfl, ?hy25⟩) (by assumption) ?rest25
  case hy25 =>
    intro w' hSw
    go_simp
    try with_reducible rfl
  try simp only [Act.put, List.getElem_toArray, List.getElem_cons_succ, List.getElem_cons_zero, List.setIfInBounds_toArray, List.set_cons_zero, List.set_cons_succ]
  refine' wpAnyH_take (i := 26) (oi := _) (v := _) rfl (by kernel_rfl) (by kernel_rfl) (by kernel_rfl) (fun _ _ _ h => h) (yieldsIf_load_mid (by rfl) _ _ rfl _ _ rfl _ _ ?hS26 huH rfl hi4) (by assumption) ?rest26
  case hS26 =>
    intro w' hSw
    exact hSw.2.2.2.2.1
  try simp only [Act.put, List.getElem_toArray, List.getElem_cons_succ, List.getElem_cons_zero, List.setIfInBounds_toArray, List.set_cons_zero, List.set_cons_succ]
  refine' wpAnyH_take (i := 27) (oi := _) (v := _) rfl (by kernel_rfl) (by kernel_rfl) (by kernel_rfl) (fun _ _ _ h => h) (yieldsIf_load_mid (by rfl) _ _ rfl _ _ rfl _ _ ?hS27 huH rfl hi4) (by assumption) ?rest27
  case hS27 =>
    intro w' hSw
    exact hSw.2.2.2.2.2
  try simp only [Act.put, List.getElem_toArray, List.getElem_cons_succ, List.getElem_cons_zero, List.setIfInBounds_toArray, List.set_cons_zero, List.set_cons_succ]
  refine wpAnyH_take (i := 28) (oi := _) (v := ?v28) rfl (by kernel_rfl) (by kernel_rfl) (by kernel_rfl) (fun _ _ _ h => h) (Or.inl ⟨by rfl, ?hy28⟩) (by assumption) ?rest28
  case hy28 =>
    intro w' hSw
    go_simp
    try with_reducible rfl
  try simp only [Act.put, List.getElem_toArray, List.getElem_cons_succ, List.getElem_cons_zero, List.setIfInBounds_toArray, List.set_cons_zero, List.set_cons_succ]
  refine wpAnyH_take (i := 29) (oi := _) (v := ?v29) rfl (by kernel_rfl) (by kernel_rfl) (by kernel_rfl) (fun _ _ _ h => h) (Or.inl ⟨by rfl, ?hy29⟩) (by assumption) ?rest29
  case hy29 =>
    intro w' hSw
    go_simp
    try with_reducible rfl
  try simp only [Act.put, List.getElem_toArray, List.getElem_cons_succ, List.getElem_cons_zero, List.setIfInBounds_toArray, List.set_cons_zero, List.set_cons_succ]
  refine wpAnyH_take (i := 30) (oi := _) (v := ?v30) rfl (by kernel_rfl) (by kernel_rfl) (by kernel_rfl) (fun _ _ _ h => h) (Or.inl ⟨by rfl, ?hy30⟩) (by assumption) ?rest30
  case hy30 =>
    intro w' hSw
    go_simp
    try with_reducible rfl
  try simp only [Act.put, List.getElem_toArray, List.getElem_cons_succ, List.getElem_cons_zero, List.setIfInBounds_toArray, List.set_cons_zero, List.set_cons_succ]
  refine wpAnyH_take (i := 31) (oi := _) (v := ?v31) rfl (by kernel_rfl) (by kernel_rfl) (by kernel_rfl) (fun _ _ _ h => h) (Or.inl ⟨by rfl, ?hy31⟩) (by assumption) ?rest31
  case hy31 =>
    intro w' hSw
    go_simp
    try with_reducible rfl
  try simp only [Act.put, List.getElem_toArray, List.getElem_cons_succ, List.getElem_cons_zero, List.setIfInBounds_toArray, List.set_cons_zero, List.set_cons_succ]
  refine wpAnyH_take (i := 32) (oi := _) (v := ?v32) rfl (by kernel_rfl) (by kernel_rfl) (by kernel_rfl) (fun _ _ _ h => h) (Or.inl ⟨by rfl, ?hy32⟩) (by assumption) ?rest32
  case hy32 =>
    intro w' hSw
    go_simp
    try with_reducible rfl
  try simp only [Act.put, List.getElem_toArray, List.getElem_cons_succ, List.getElem_cons_zero, List.setIfInBounds_toArray, List.set_cons_zero, List.set_cons_succ]
  refine wpAnyH_take (i := 33) (oi := _) (v := ?v33) rfl (by kernel_rfl) (by kernel_rfl) (by kernel_rfl) (fun _ _ _ h => h) (Or.inl ⟨by rfl, ?hy33⟩) (by assumption) ?rest33
  case hy33 =>
    intro w' hSw
    go_simp
    try with_reducible rfl
  try simp only [Act.put, List.getElem_toArray, List.getElem_cons_succ, List.getElem_cons_zero, List.setIfInBounds_toArray, List.set_cons_zero, List.set_cons_succ]
  refine wpAnyH_take (i := 34) (oi := _) (v := ?v34) rfl (by kernel_rfl) (by kernel_rfl) (by kernel_rfl) (fun _ _ _ h => h) (Or.inl ⟨by rfl, ?hy34⟩) (by assumption) ?rest34
  case hy34 =>
    intro w' hSw
    go_simp
    try with_reducible rfl
  try simp only [Act.put, List.getElem_toArray, List.getElem_cons_succ, List.getElem_cons_zero, List.setIfInBounds_toArray, List.set_cons_zero, List.set_cons_succ]
  refine wpAnyH_take (i := 35) (oi := _) (v := ?v35) rfl (by kernel_rfl) (by kernel_rfl) (by kernel_rfl) (fun _ _ _ h => h) (Or.inl ⟨by rfl, ?hy35⟩) (by assumption) ?rest35
  case hy35 =>
    intro w' hSw
    go_simp
    try with_reducible rfl
  try simp only [Act.put, List.getElem_toArray, List.getElem_cons_succ, List.getElem_cons_zero, List.setIfInBounds_toArray, List.set_cons_zero, List.set_cons_succ]
  refine wpAnyH_done (by kernel_rfl) ?_ _
  go_wp2
  go_ret
  exact ⟨rfl, HB.out.trans ((BV8.out.trans (c13.mono BV8.out.size)).mono HB.out.size)⟩
end Go.Proofs.YtmafefdchglpbaaDoor
