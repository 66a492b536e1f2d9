/-
  The walk of the statement DigestBack: it returns true for every digest, half and string (the table of constants reads as it is laid).
-/
import Derived.Test.YtnhidfinmghjmaaDoorHexG
namespace Go.Proofs.YtnhidfinmghjmaaDoor
open Go.RowKit

theorem hexl_hexvF : ∀ c : Fin 256, hexv (UInt8.ofNat c.val) < 16 → hexl (hexv (UInt8.ofNat c.val)) = UInt8.ofNat c.val := by decide +kernel
theorem hexl_hexv (c : UInt8) (h : hexv c < 16) : hexl (hexv c) = c := by
  have := hexl_hexvF ⟨c.toNat, UInt8.toNat_lt _⟩
  simp only [UInt8.ofNat_toNat] at this
  exact this h
theorem hok_at {l : List UInt8} {n : Nat} (h : hok l n = true) (i : Nat) (hi : i < n) : hexv (l.getD (2 * i) 0) < 16 ∧ hexv (l.getD (2 * i + 1) 0) < 16 := by
  unfold hok at h
  have := (List.all_eq_true.1 h) i (by simpa using hi)
  unfold hok1 at this
  simpa using this
theorem hbs_byt {l : List UInt8} {n : Nat} (h : hok l n = true) : Byt (hbs l n) := fun x hx => by
  unfold hbs at hx
  obtain ⟨i, hi, rfl⟩ := List.mem_map.1 hx
  have := hok_at h i (by simpa using hi)
  unfold hby; omega
theorem hexB_hbs (l : List UInt8) (n : Nat) (hl : l.length = 2 * n) (h : hok l n = true) : hexB (hbs l n) = l := by
  have key : ∀ k, k ≤ n → hexB (hbs l k) = l.take (2 * k) := by
    intro k
    induction k with
    | zero => intro _; rfl
    | succ k ih =>
      intro hk
      have hp := hok_at h k (by omega)
      have e0 : l.getD (2 * k) 0 = l[2 * k]'(by omega) := by rw [List.getD_eq_getElem?_getD, List.getElem?_eq_getElem (by omega)]; rfl
      have e1 : l.getD (2 * k + 1) 0 = l[2 * k + 1]'(by omega) := by rw [List.getD_eq_getElem?_getD, List.getElem?_eq_getElem (by omega)]; rfl
      rw [hbs_succ]
      unfold hexB
      rw [List.flatMap_append]
      have ih' := ih (by omega)
      unfold hexB at ih'
      rw [ih', show 2 * (k + 1) = 2 * k + 1 + 1 by omega, List.take_succ_eq_append_getElem (by omega), List.take_succ_eq_append_getElem (by omega), List.append_assoc]
      congr 1
      have d1 : (hby l k).toNat / 16 = hexv (l.getD (2 * k) 0) := by unfold hby; omega
      have d2 : (hby l k).toNat % 16 = hexv (l.getD (2 * k + 1) 0) := by unfold hby; omega
      rw [List.flatMap_singleton, d1, d2, hexl_hexv _ hp.1, hexl_hexv _ hp.2, e0, e1]; rfl
  have := key n (Nat.le_refl _)
  rw [this, ← hl, List.take_length]

/-- the text of a digest is read -/
def fmtD (d : List Int) : ByteArray := ⟨([115, 104, 97, 50, 53, 54, 58] ++ hexB d).toArray⟩
theorem fmtD_list (d : List Int) : (fmtD d).data.toList = pfx.data.toList ++ hexB d := rfl
theorem pok_hexB (a : List Int) (n : Nat) (hl : a.length = n) (ha : Byt a) : pok (hexB a) n = true ∧ pby (hexB a) n = a := by
  subst hl
  have h1 : pok (hexB a) a.length = true := by unfold pok; rw [hexB_length, hok_hexB a ha]; simp
  exact ⟨h1, by unfold pby; rw [if_pos h1, hbs_hexB a ha]⟩
theorem ppok_fmt (d : List Int) (hl : d.length = 32) (hd : Byt d) : ppok (fmtD d).data.toList = true ∧ ppby (fmtD d).data.toList = d := by
  have ht : (fmtD d).data.toList.take 7 = pfx.data.toList := by rw [fmtD_list, List.take_append_of_le_length (Nat.le_refl 7)]; rfl
  have hdr : (fmtD d).data.toList.drop 7 = hexB d := by rw [fmtD_list, List.drop_append_of_le_length (Nat.le_refl 7)]; rfl
  have h1 : ppok (fmtD d).data.toList = true := by unfold ppok; rw [hdr, (pok_hexB d 32 hl hd).1, decide_eq_true ht]; rfl
  refine ⟨h1, ?_⟩
  have h2 := (pok_hexB d 32 hl hd)
  unfold ppby; rw [if_pos h1, hdr]
  have h3 := h2.2
  unfold pby at h3; rw [if_pos h2.1] at h3; exact h3
/-- what is read has the text that was read -/
theorem fmt_read (s : ByteArray) (h : pok s.data.toList 16 = true) : (⟨(hexB (pby s.data.toList 16)).toArray⟩ : ByteArray) = s ∧ (pby s.data.toList 16).length = 16 ∧ Byt (pby s.data.toList 16) := by
  have hb := h
  unfold pok at hb
  simp only [Bool.and_eq_true, decide_eq_true_eq] at hb
  have e : pby s.data.toList 16 = hbs s.data.toList 16 := by unfold pby; rw [if_pos h]
  rw [e]
  exact ⟨by apply ByteArray.ext; rw [hexB_hbs _ _ hb.1 hb.2], hbs_length _ _, hbs_byt hb.2⟩
theorem fmtD_read (s : ByteArray) (h : ppok s.data.toList = true) : fmtD (ppby s.data.toList) = s ∧ (ppby s.data.toList).length = 32 ∧ Byt (ppby s.data.toList) := by
  have hb := h
  unfold ppok pok at hb
  simp only [Bool.and_eq_true, decide_eq_true_eq] at hb
  have e : ppby s.data.toList = hbs (s.data.toList.drop 7) 32 := by unfold ppby; rw [if_pos h]
  rw [e]
  refine ⟨?_, hbs_length _ _, hbs_byt hb.2.2⟩
  apply ByteArray.ext
  show ([115, 104, 97, 50, 53, 54, 58] ++ hexB (hbs (s.data.toList.drop 7) 32)).toArray = s.data
  rw [hexB_hbs _ _ hb.2.1 hb.2.2]
  have : ([115, 104, 97, 50, 53, 54, 58] : List UInt8) = s.data.toList.take 7 := hb.1.symm
  rw [this, List.take_append_drop]
/-- the load of a row under a guard that lets it run -/
theorem wpList_load_row_g {P : Program} {ops : Array Oper} {rest : List Oper} {o : Oper} {a : Act} {w : World} {Q : Exit → Act → World → Prop} (hw : Region.wanted o (yielded ops a.tmps) = true) (ty : TypeId) (x : Operand) (ho : o.op = .load ty x)
    (g : Nat) (hx : a.eval x = .pointer (some ⟨g, 0, none⟩)) (t : TypeId) (cs : Array Value) (fr : Nat × Nat) (d : TypeDesc) (hg : w.heap[g]? = some (.cells cs t fr))
    (hu : P.underlying ty = some d) (hd : (match d with | .struct _ | .array _ _ => true | _ => false) = true) (hi : (P.info? ty).map (·.size) = some cs.size)
    (h : wpList P ops Q rest (a.put o.dst (.agg cs)) w) : wpList P ops Q (o :: rest) a w :=
  wpList_step fun K hK => by rw [if_pos hw]; exact wp_load_row ty x ho g hx t cs fr d hg hu hd hi (hK _ _ h)
theorem neq_digest (X : List Int) (hX : X.length = 32) (w : World) : (binOp .neq 25 (.agg (X.map (Value.int .u8)).toArray) (.agg (X.map (Value.int .u8)).toArray)).run Tryd.prog w = .ok (.bool false) w := by
  have hc : Tryd.prog.cellsOf 5 = 1 := by kernel_rfl
  obtain ⟨i, hi⟩ : ∃ i, Tryd.prog.info? 5 = some i := Option.isSome_iff_exists.1 (by kernel_rfl)
  have h := run_equalIn_array (P := Tryd.prog) w 9999 (X.map (Value.int .u8)).toArray (X.map (Value.int .u8)).toArray Tryd.underlying25 hi
  rw [hc] at h
  have e := eq_items 9998 X X (List.range 32) w (fun j hj => by rw [hX]; simpa using hj)
  have r := all_range_eq X X rfl
  rw [hX] at r
  rw [r] at e
  rw [e] at h
  simp only [binOp]
  simp [Op.equal, Op.maxDepth, h]
theorem neq_half (X : List Int) (hX : X.length = 16) (w : World) : (binOp .neq 34 (.agg (X.map (Value.int .u8)).toArray) (.agg (X.map (Value.int .u8)).toArray)).run Tryd.prog w = .ok (.bool false) w := by
  have hc : Tryd.prog.cellsOf 5 = 1 := by kernel_rfl
  obtain ⟨i, hi⟩ : ∃ i, Tryd.prog.info? 5 = some i := Option.isSome_iff_exists.1 (by kernel_rfl)
  have h := run_equalIn_array (P := Tryd.prog) w 9999 (X.map (Value.int .u8)).toArray (X.map (Value.int .u8)).toArray Tryd.underlying34 hi
  rw [hc] at h
  have e := eq_items 9998 X X (List.range 16) w (fun j hj => by rw [hX]; simpa using hj)
  have r := all_range_eq X X rfl
  rw [hX] at r
  rw [r] at e
  rw [e] at h
  simp only [binOp]
  simp [Op.equal, Op.maxDepth, h]
set_option maxRecDepth 100000 in
set_option maxHeartbeats 1000000 in
theorem back_any (d h : List Int) (s : ByteArray) (w : World) (hd : d.length = 32) (hh : h.length = 16) (hD : Byt d) (hH : Byt h) (hs : s.size ≤ 9223372036854775807) (hk : KayIn w) (hk0 : 0 < w.heap.size) :
    Calls Tryd.prog 7 #[.agg (d.map (Value.int .u8)).toArray, .agg (h.map (Value.int .u8)).toArray, .string s] w fun e w' => e = .returned (.bool true) ∧ Below w.heap.size w w' := by
  by_cases hbig : 300 < s.size
  · go_enter Tryd.func7, Tryd.ntmps7
    go_wp2
    go_ret
    exact ⟨rfl, ((Below.refl w.heap.size w).alloc (Nat.le_refl _) _).alloc (by simp) _⟩
  have hdb : decide ((s.size : Int) > 300) = false := by simp; omega
  have HRA := Lib.hid (row_new w 25 .u8 d); have HBA := Lib.hid (below_alloc w (.cells (d.map (Value.int .u8)).toArray 25)); have HSA := Lib.hid (alloc_size w (.cells (d.map (Value.int .u8)).toArray 25))
  have HHD := Lib.hid hd; have HHH := Lib.hid hh; clear hd hh
  have HROW0 : Hid (((w.alloc (.cells (d.map (Value.int .u8)).toArray 25)).alloc (.cells (h.map (Value.int .u8)).toArray 34)).heap[w.heap.size]? = some (.cells (d.map (Value.int .u8)).toArray 25 (0, 0))) := (by have h1 := below_alloc (w.alloc (.cells (d.map (Value.int .u8)).toArray 25)) (.cells (h.map (Value.int .u8)).toArray 34); exact HRA.out.below h1 (by simp))
  have HID0 := Lib.hid (row_info32 d HHD.out)
  go_enter Tryd.func7, Tryd.ntmps7
  go_wp2_with (refine wpList_load_row rfl 25 _ rfl w.heap.size rfl 25 _ (0, 0) _ HROW0.out Tryd.underlying25 rfl HID0.out ?_)
  clear HROW0 HID0
  generalize hwa : World.alloc w _ = wa
  have hra : RowIn wa w.heap.size 25 .u8 d := by rw [← hwa]; exact HRA.out
  have hba : Below w.heap.size w wa := by rw [← hwa]; exact HBA.out
  have hsa : wa.heap.size = w.heap.size + 1 := by rw [← hwa]; exact HSA.out
  clear hwa HRA HBA HSA
  have hrb := row_new wa 34 .u8 h
  have hbb := below_alloc wa (.cells (h.map (Value.int .u8)).toArray 34)
  have hsb := alloc_size wa (.cells (h.map (Value.int .u8)).toArray 34)
  generalize World.alloc wa (.cells (h.map (Value.int .u8)).toArray 34) = wb at *
  rw [hsa] at hrb
  have hra := hra.below hbb (by omega)
  have hB : Below w.heap.size w wb := hba.trans (hbb.mono (by omega))
  have hl2 : w.heap.size + 1 < wb.heap.size := by omega
  clear hba hbb hsa hsb
  have hd := HHD.out; have hh := HHH.out
  have hcA : ∀ w5, Below wb.heap.size wb w5 → Calls Tryd.prog 8 #[] w5 fun e w' => e = .returned (.bool true) ∧ Below w5.heap.size w5 w' ∧ Below wb.heap.size wb w' := fun w5 hb5 =>
    (awake_any w5 (hk.below (hB.trans (hb5.mono hB.size)) hk0) (by have := hb5.size; have := hB.size; omega)).mono fun e w' ⟨he, hb⟩ => ⟨he, hb, hb5.trans (hb.mono hb5.size)⟩
  have hcF : ∀ w5, Below wb.heap.size wb w5 → Calls Tryd.prog 21 #[.agg (d.map (Value.int .u8)).toArray] w5 fun e w' => e = .returned (.string (fmtD d)) ∧ Below w5.heap.size w5 w' ∧ Below wb.heap.size wb w' := fun w5 hb5 =>
    (Format_any d w5 hd hD).mono fun e w' ⟨he, hb⟩ => ⟨he, hb, hb5.trans (hb.mono hb5.size)⟩
  have hcP : ∀ w5, Below wb.heap.size wb w5 → Calls Tryd.prog 17 #[.string (fmtD d)] w5 fun e w' => e = .returned (.tuple #[.agg (d.map (Value.int .u8)).toArray, .bool true]) ∧ Below w5.heap.size w5 w' ∧ Below wb.heap.size wb w' := fun w5 hb5 =>
    (Parse_any (fmtD d) w5 (by rw [Lib.size_eq, fmtD_list, List.length_append, hexB_length, hd]; show 7 + _ ≤ _; omega)).mono fun e w' ⟨he, hb⟩ => ⟨by rw [he, (ppok_fmt d hd hD).1, (ppok_fmt d hd hD).2], hb, hb5.trans (hb.mono hb5.size)⟩
  obtain ⟨FH, hFH⟩ : ∃ F : ByteArray, F = ⟨(hexB h).toArray⟩ := ⟨_, rfl⟩
  have hcG : ∀ w5, Below wb.heap.size wb w5 → Calls Tryd.prog 23 #[.agg (h.map (Value.int .u8)).toArray] w5 fun e w' => e = .returned (.string FH) ∧ Below w5.heap.size w5 w' ∧ Below wb.heap.size wb w' := fun w5 hb5 =>
    (FormatHalf_any h w5 hh hH).mono fun e w' ⟨he, hb⟩ => ⟨by rw [he, hFH], hb, hb5.trans (hb.mono hb5.size)⟩
  have hcQ : ∀ w5, Below wb.heap.size wb w5 → Calls Tryd.prog 19 #[.string FH] w5 fun e w' => e = .returned (.tuple #[.agg (h.map (Value.int .u8)).toArray, .bool true]) ∧ Below w5.heap.size w5 w' ∧ Below wb.heap.size wb w' := fun w5 hb5 =>
    (ParseHalf_any FH w5).mono fun e w' ⟨he, hb⟩ => ⟨by have h1 := pok_hexB h 16 hh hH; rw [he, hFH]; show Ending.returned (.tuple #[.agg ((pby (hexB h) 16).map (Value.int .u8)).toArray, .bool (pok (hexB h) 16)]) = _; rw [h1.1, h1.2], hb, hb5.trans (hb.mono hb5.size)⟩
  have hcS : ∀ w5, Below wb.heap.size wb w5 → Calls Tryd.prog 17 #[.string s] w5 fun e w' => e = .returned (.tuple #[.agg ((ppby s.data.toList).map (Value.int .u8)).toArray, .bool (ppok s.data.toList)]) ∧ Below w5.heap.size w5 w' ∧ Below wb.heap.size wb w' := fun w5 hb5 =>
    (Parse_any s w5 hs).mono fun e w' ⟨he, hb⟩ => ⟨he, hb, hb5.trans (hb.mono hb5.size)⟩
  have hcT : ∀ w5, Below wb.heap.size wb w5 → Calls Tryd.prog 19 #[.string s] w5 fun e w' => e = .returned (.tuple #[.agg ((pby s.data.toList 16).map (Value.int .u8)).toArray, .bool (pok s.data.toList 16)]) ∧ Below w5.heap.size w5 w' ∧ Below wb.heap.size wb w' := fun w5 hb5 =>
    (ParseHalf_any s w5).mono fun e w' ⟨he, hb⟩ => ⟨he, hb, hb5.trans (hb.mono hb5.size)⟩
  have hcU : ppok s.data.toList = true → ∀ w5, Below wb.heap.size wb w5 → Calls Tryd.prog 21 #[.agg ((ppby s.data.toList).map (Value.int .u8)).toArray] w5 fun e w' => e = .returned (.string s) ∧ Below w5.heap.size w5 w' ∧ Below wb.heap.size wb w' := fun hp w5 hb5 =>
    (Format_any _ w5 (fmtD_read s hp).2.1 (fmtD_read s hp).2.2).mono fun e w' ⟨he, hb⟩ => ⟨by rw [he]; show Ending.returned (.string (fmtD (ppby s.data.toList))) = _; rw [(fmtD_read s hp).1], hb, hb5.trans (hb.mono hb5.size)⟩
  have hcV : pok s.data.toList 16 = true → ∀ w5, Below wb.heap.size wb w5 → Calls Tryd.prog 23 #[.agg ((pby s.data.toList 16).map (Value.int .u8)).toArray] w5 fun e w' => e = .returned (.string s) ∧ Below w5.heap.size w5 w' ∧ Below wb.heap.size wb w' := fun hp w5 hb5 =>
    (FormatHalf_any _ w5 (fmt_read s hp).2.1 (fmt_read s hp).2.2).mono fun e w' ⟨he, hb⟩ => ⟨by rw [he, (fmt_read s hp).1], hb, hb5.trans (hb.mono hb5.size)⟩
  have hne1 := neq_digest d hd
  have hne2 := neq_half h hh
  have HROWD : Hid (∀ w', Below wb.heap.size wb w' → w'.heap[w.heap.size]? = some (.cells (d.map (Value.int .u8)).toArray 25 (0, 0))) := fun w' hb => (hb.block _ (by omega)).trans hra
  have HROWH : Hid (∀ w', Below wb.heap.size wb w' → w'.heap[w.heap.size + 1]? = some (.cells (h.map (Value.int .u8)).toArray 34 (0, 0))) := fun w' hb => (hb.block _ (by omega)).trans hrb
  have LS : (ppby s.data.toList).length = 32 := by unfold ppby; split <;> simp [hbs_length]
  have LT : (pby s.data.toList 16).length = 16 := by unfold pby; split <;> simp [hbs_length]
  have HID := Lib.hid (row_info32 d hd); have HIDs : Hid (32 = ((d.map (Value.int .u8)).toArray).size) := by show _ = _; simp [hd]
  have HIDo := Lib.hid (oneCell_map .u8 d)
  have HIH := Lib.hid (row_info16 h hh); have HIHs : Hid (16 = ((h.map (Value.int .u8)).toArray).size) := by show _ = _; simp [hh]
  have HIHo := Lib.hid (oneCell_map .u8 h)
  have HIS := Lib.hid (row_info32 _ LS); have HISs : Hid (32 = (((ppby s.data.toList).map (Value.int .u8)).toArray).size) := by show _ = _; simp [LS]
  have HISo := Lib.hid (oneCell_map .u8 (ppby s.data.toList))
  have HIT := Lib.hid (row_info16 _ LT); have HITs : Hid (16 = (((pby s.data.toList 16).map (Value.int .u8)).toArray).size) := by show _ = _; simp [LT]
  have HITo := Lib.hid (oneCell_map .u8 (pby s.data.toList 16))
  clear LS LT
  clear hra hrb
  generalize fmtD d = FD at *
  generalize (d.map (Value.int .u8)).toArray = VD at *
  generalize (h.map (Value.int .u8)).toArray = VH at *
  generalize ((ppby s.data.toList).map (Value.int .u8)).toArray = VS at *
  generalize ((pby s.data.toList 16).map (Value.int .u8)).toArray = VT at *
  generalize ppok s.data.toList = b1 at *
  generalize pok s.data.toList 16 = b2 at *
  have HCA := Lib.hid hcA; have HCF := Lib.hid hcF; have HCP := Lib.hid hcP; have HCG := Lib.hid hcG; have HCQ := Lib.hid hcQ; have HCS := Lib.hid hcS; have HCT := Lib.hid hcT; have HCU := Lib.hid hcU; have HCV := Lib.hid hcV
  have HB := Lib.hid hB
  have hb0 : Below wb.heap.size wb wb := Below.refl _ _
  clear hcA hcF hcP hcG hcQ hcS hcT hcU hcV hk hk0 hFH hd hh hD hH hs hB
  refine (HCF.out _ hb0).mono ?_
  rintro e w5 ⟨rfl, l5, b5⟩
  go_wp2_with fail
  refine (HCP.out _ b5).mono ?_
  rintro e w6 ⟨rfl, l6, b6⟩
  go_wp2_with (first
    | (refine wpList_store_row rfl 25 _ _ rfl w6.heap.size _ rfl rfl 25 _ (heap_alloc_new w6 _) HID.out (by simpa using HIDs.out) HIDo.out ?_; generalize hv : World.setRow _ _ _ = v6; have rv6 : v6.heap[w6.heap.size]? = some (.cells VD 25 (0, 0)) := (by rw [← hv]; exact setRow_heap _ _ _ _ _ _ (heap_alloc_new w6 _)); have kv6 : Below w6.heap.size w6 v6 := (by rw [← hv]; exact below_setRow ((Below.refl _ _).alloc (Nat.le_refl _) _) (Nat.le_refl _) _); clear hv; have bv6 := b6.trans (kv6.mono b6.size); have zv6 := (Array.getElem?_eq_some_iff.1 rv6).1; have Rv6 := Lib.hid rv6; have Kv6 := Lib.hid kv6; clear rv6 kv6)
    | (refine wpList_load_row_g (by rfl) 34 _ rfl (w.heap.size + 1) rfl 34 _ (0, 0) _ (HROWH.out _ bv6) Tryd.underlying34 rfl HIH.out ?_))
  refine (HCG.out _ bv6).mono ?_
  rintro e w7 ⟨rfl, l7, b7⟩
  go_wp2_with fail
  refine (HCQ.out _ b7).mono ?_
  rintro e w8 ⟨rfl, l8, b8⟩
  have m8 : Below v6.heap.size v6 w8 := l7.trans (l8.mono l7.size)
  have RA8 : Hid (∀ w', Below w8.heap.size w8 w' → w'.heap[w6.heap.size]? = some (.cells VD 25 (0, 0))) := fun w' hb => (hb.block _ (by have := m8.size; omega)).trans ((m8.block _ zv6).trans Rv6.out)
  clear m8 l5 l6 l7 l8
  go_wp2_with (first
    | (refine wpList_store_row rfl 34 _ _ rfl w8.heap.size _ rfl rfl 34 _ (heap_alloc_new w8 _) HIH.out (by simpa using HIHs.out) HIHo.out ?_; generalize hv : World.setRow _ _ _ = v8; have rv8 : v8.heap[w8.heap.size]? = some (.cells VH 34 (0, 0)) := (by rw [← hv]; exact setRow_heap _ _ _ _ _ _ (heap_alloc_new w8 _)); have kv8 : Below w8.heap.size w8 v8 := (by rw [← hv]; exact below_setRow ((Below.refl _ _).alloc (Nat.le_refl _) _) (Nat.le_refl _) _); clear hv; have bv8 := b8.trans (kv8.mono b8.size); have zv8 := (Array.getElem?_eq_some_iff.1 rv8).1; have Rv8 := Lib.hid rv8; have Kv8 := Lib.hid kv8; clear rv8 kv8)
    | (refine wpList_load_row_g (by rfl) 25 _ rfl w6.heap.size rfl 25 _ (0, 0) _ (RA8.out _ Kv8.out) Tryd.underlying25 rfl HID.out ?_)
    | (refine wpList_load_row_g (by rfl) 25 _ rfl w.heap.size rfl 25 _ (0, 0) _ (HROWD.out _ bv8) Tryd.underlying25 rfl HID.out ?_)
    | (refine wpList_load_row_g (by rfl) 34 _ rfl w8.heap.size rfl 34 _ (0, 0) _ Rv8.out Tryd.underlying34 rfl HIH.out ?_)
    | (refine wpList_load_row_g (by rfl) 34 _ rfl (w.heap.size + 1) rfl 34 _ (0, 0) _ (HROWH.out _ bv8) Tryd.underlying34 rfl HIH.out ?_))
  refine (HCS.out _ bv8).mono ?_
  rintro e w9 ⟨rfl, l9, b9⟩
  cases b1
  · go_wp2_with (refine wpList_store_row rfl 25 _ _ rfl w9.heap.size _ rfl rfl 25 _ (heap_alloc_new w9 _) HIS.out (by simpa using HISs.out) HISo.out ?_; generalize hv : World.setRow _ _ _ = v9; have rv9 : v9.heap[w9.heap.size]? = some (.cells VS 25 (0, 0)) := (by rw [← hv]; exact setRow_heap _ _ _ _ _ _ (heap_alloc_new w9 _)); have kv9 : Below w9.heap.size w9 v9 := (by rw [← hv]; exact below_setRow ((Below.refl _ _).alloc (Nat.le_refl _) _) (Nat.le_refl _) _); clear hv; have bv9 := b9.trans (kv9.mono b9.size); have zv9 := (Array.getElem?_eq_some_iff.1 rv9).1; have Rv9 := Lib.hid rv9; have Kv9 := Lib.hid kv9; clear rv9 kv9)
    refine (HCT.out _ bv9).mono ?_
    rintro e w12 ⟨rfl, l12, b12⟩
    cases b2
    · go_wp2_with (refine wpList_store_row rfl 34 _ _ rfl w12.heap.size _ rfl rfl 34 _ (heap_alloc_new w12 _) HIT.out (by simpa using HITs.out) HITo.out ?_; generalize hv : World.setRow _ _ _ = v12; have rv12 : v12.heap[w12.heap.size]? = some (.cells VT 34 (0, 0)) := (by rw [← hv]; exact setRow_heap _ _ _ _ _ _ (heap_alloc_new w12 _)); have kv12 : Below w12.heap.size w12 v12 := (by rw [← hv]; exact below_setRow ((Below.refl _ _).alloc (Nat.le_refl _) _) (Nat.le_refl _) _); clear hv; have bv12 := b12.trans (kv12.mono b12.size); have zv12 := (Array.getElem?_eq_some_iff.1 rv12).1; have Rv12 := Lib.hid rv12; have Kv12 := Lib.hid kv12; clear rv12 kv12)
      refine (HCA.out _ bv12).mono ?_
      rintro e w14 ⟨rfl, l14, b14⟩
      go_wp2
      go_ret
      exact ⟨rfl, HB.out.trans (b14.mono HB.out.size)⟩
    · go_wp2_with (first
        | (refine wpList_store_row rfl 34 _ _ rfl w12.heap.size _ rfl rfl 34 _ (heap_alloc_new w12 _) HIT.out (by simpa using HITs.out) HITo.out ?_; generalize hv : World.setRow _ _ _ = v12; have rv12 : v12.heap[w12.heap.size]? = some (.cells VT 34 (0, 0)) := (by rw [← hv]; exact setRow_heap _ _ _ _ _ _ (heap_alloc_new w12 _)); have kv12 : Below w12.heap.size w12 v12 := (by rw [← hv]; exact below_setRow ((Below.refl _ _).alloc (Nat.le_refl _) _) (Nat.le_refl _) _); clear hv; have bv12 := b12.trans (kv12.mono b12.size); have zv12 := (Array.getElem?_eq_some_iff.1 rv12).1; have Rv12 := Lib.hid rv12; have Kv12 := Lib.hid kv12; clear rv12 kv12)
        | (refine wpList_load_row_g (by rfl) 34 _ rfl w12.heap.size rfl 34 _ (0, 0) _ Rv12.out Tryd.underlying34 rfl HIT.out ?_))
      refine (HCV.out (by first | rfl | trivial) _ bv12).mono ?_
      rintro e w13 ⟨rfl, l13, b13⟩
      go_wp2_with fail
      refine (HCA.out _ b13).mono ?_
      rintro e w14 ⟨rfl, l14, b14⟩
      go_wp2
      go_ret
      exact ⟨rfl, HB.out.trans (b14.mono HB.out.size)⟩
  · go_wp2_with (first
      | (refine wpList_store_row rfl 25 _ _ rfl w9.heap.size _ rfl rfl 25 _ (heap_alloc_new w9 _) HIS.out (by simpa using HISs.out) HISo.out ?_; generalize hv : World.setRow _ _ _ = v9; have rv9 : v9.heap[w9.heap.size]? = some (.cells VS 25 (0, 0)) := (by rw [← hv]; exact setRow_heap _ _ _ _ _ _ (heap_alloc_new w9 _)); have kv9 : Below w9.heap.size w9 v9 := (by rw [← hv]; exact below_setRow ((Below.refl _ _).alloc (Nat.le_refl _) _) (Nat.le_refl _) _); clear hv; have bv9 := b9.trans (kv9.mono b9.size); have zv9 := (Array.getElem?_eq_some_iff.1 rv9).1; have Rv9 := Lib.hid rv9; have Kv9 := Lib.hid kv9; clear rv9 kv9)
      | (refine wpList_load_row_g (by rfl) 25 _ rfl w9.heap.size rfl 25 _ (0, 0) _ Rv9.out Tryd.underlying25 rfl HIS.out ?_))
    refine (HCU.out (by first | rfl | trivial) _ bv9).mono ?_
    rintro e w10 ⟨rfl, l10, b10⟩
    go_wp2_with fail
    refine (HCT.out _ b10).mono ?_
    rintro e w12 ⟨rfl, l12, b12⟩
    cases b2
    · go_wp2_with (refine wpList_store_row rfl 34 _ _ rfl w12.heap.size _ rfl rfl 34 _ (heap_alloc_new w12 _) HIT.out (by simpa using HITs.out) HITo.out ?_; generalize hv : World.setRow _ _ _ = v12; have rv12 : v12.heap[w12.heap.size]? = some (.cells VT 34 (0, 0)) := (by rw [← hv]; exact setRow_heap _ _ _ _ _ _ (heap_alloc_new w12 _)); have kv12 : Below w12.heap.size w12 v12 := (by rw [← hv]; exact below_setRow ((Below.refl _ _).alloc (Nat.le_refl _) _) (Nat.le_refl _) _); clear hv; have bv12 := b12.trans (kv12.mono b12.size); have zv12 := (Array.getElem?_eq_some_iff.1 rv12).1; have Rv12 := Lib.hid rv12; have Kv12 := Lib.hid kv12; clear rv12 kv12)
      refine (HCA.out _ bv12).mono ?_
      rintro e w14 ⟨rfl, l14, b14⟩
      go_wp2
      go_ret
      exact ⟨rfl, HB.out.trans (b14.mono HB.out.size)⟩
    · go_wp2_with (first
        | (refine wpList_store_row rfl 34 _ _ rfl w12.heap.size _ rfl rfl 34 _ (heap_alloc_new w12 _) HIT.out (by simpa using HITs.out) HITo.out ?_; generalize hv : World.setRow _ _ _ = v12; have rv12 : v12.heap[w12.heap.size]? = some (.cells VT 34 (0, 0)) := (by rw [← hv]; exact setRow_heap _ _ _ _ _ _ (heap_alloc_new w12 _)); have kv12 : Below w12.heap.size w12 v12 := (by rw [← hv]; exact below_setRow ((Below.refl _ _).alloc (Nat.le_refl _) _) (Nat.le_refl _) _); clear hv; have bv12 := b12.trans (kv12.mono b12.size); have zv12 := (Array.getElem?_eq_some_iff.1 rv12).1; have Rv12 := Lib.hid rv12; have Kv12 := Lib.hid kv12; clear rv12 kv12)
        | (refine wpList_load_row_g (by rfl) 34 _ rfl w12.heap.size rfl 34 _ (0, 0) _ Rv12.out Tryd.underlying34 rfl HIT.out ?_))
      refine (HCV.out (by first | rfl | trivial) _ bv12).mono ?_
      rintro e w13 ⟨rfl, l13, b13⟩
      go_wp2_with fail
      refine (HCA.out _ b13).mono ?_
      rintro e w14 ⟨rfl, l14, b14⟩
      go_wp2
      go_ret
      exact ⟨rfl, HB.out.trans (b14.mono HB.out.size)⟩
end Go.Proofs.YtnhidfinmghjmaaDoor
