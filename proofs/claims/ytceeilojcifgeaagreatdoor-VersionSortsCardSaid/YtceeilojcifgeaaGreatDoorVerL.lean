/-
  Versions: the walks of dotted and epoch (conditions: at most 64 bytes to be read).
-/
import Derived.Test.YtceeilojcifgeaaGreatDoorVerK
import Derived.Test.YtceeilojcifgeaaGreatDoorVerD
namespace Go.Proofs.YtceeilojcifgeaaGreatDoor
open Go.RowKit

/-- a Dotted version: its key -/
def dotS (l k : BL) : Option BL :=
  if l.takeWhile isD = [] then none else if l.dropWhile isD = [] then some (dz (k ++ num (l.takeWhile isD)))
  else if _h : skB 46 (l.dropWhile isD) = true then dotS ((l.dropWhile isD).drop 1) (k ++ num (l.takeWhile isD)) else none
termination_by l.length
decreasing_by
  have h1 := skB_len _h; have h2 := dw_le isD l; rw [List.length_drop]; omega
theorem dotS_1 {l k : BL} (h : l.takeWhile isD = []) : dotS l k = none := by rw [dotS, if_pos h]
theorem dotS_2 {l k : BL} (h : l.takeWhile isD ≠ []) (h2 : l.dropWhile isD = []) : dotS l k = some (dz (k ++ num (l.takeWhile isD))) := by rw [dotS, if_neg h, if_pos h2]
theorem dotS_3 {l k : BL} (h : l.takeWhile isD ≠ []) (h2 : l.dropWhile isD ≠ []) (h3 : skB 46 (l.dropWhile isD) = false) : dotS l k = none := by
  rw [dotS, if_neg h, if_neg h2]; simp only [h3]; rfl
theorem dotS_4 {l k : BL} (h : l.takeWhile isD ≠ []) (h2 : l.dropWhile isD ≠ []) (h3 : skB 46 (l.dropWhile isD) = true) : dotS l k = dotS ((l.dropWhile isD).drop 1) (k ++ num (l.takeWhile isD)) := by
  rw [dotS, if_neg h, if_neg h2]; simp only [h3, dite_true]
theorem len_pos {l : BL} (h : l ≠ []) : 1 ≤ l.length := by
  rcases Nat.eq_zero_or_pos l.length with h1 | h1
  · exact absurd (List.eq_nil_of_length_eq_zero h1) h
  · exact h1
theorem bs_eqE (l : BL) : ((bs l).toList == []) = (l == []) := by rw [Lib.toList_data, bs_data]
set_option maxRecDepth 100000 in
set_option maxHeartbeats 2000000 in
theorem dotted_any (B b : Nat) (l k : BL) (w : World) (h : Rd B w b (bs l) k) (hl : l.length ≤ 64) (hk : k.length + 4 * l.length ≤ 900) :
    Calls Tryz.prog 40 #[.pointer (some ⟨b, 0, none⟩)] w (PostK B b w (dotS l k)) := by
  have HH := Lib.hid h
  clear h
  go_enter Tryz.func40, Tryz.ntmps40
  go_wp2_with fail
  go_loopg [3] l.length (fun g _ wr => ∃ l' k' : BL, l'.length = g ∧ l'.length ≤ 64 ∧ k'.length + 4 * l'.length ≤ 900 ∧ Hid (dotS l' k' = dotS l k ∧ Rd B wr b (bs l') k' ∧ Below B w wr))
  case atStart => exact ⟨l, k, rfl, hl, hk, rfl, HH.out, Below.refl _ _⟩
  case round =>
    obtain ⟨l', k', hg, hl', hk', HR⟩ := hrel
    have HI := Lib.hid HR.out.1
    have HBE := Lib.hid HR.out.2.2
    have HT := Lib.hid (take_digit B b l' k' wr HR.out.2.1 (by omega))
    have t1 := tw_len isD l'
    have n1 := num_length (l'.takeWhile isD)
    have HN := Lib.hid (fun w h => number_any B b (l'.takeWhile isD) (bs (l'.dropWhile isD)) k' w h (by omega) (by omega))
    have HDZ := Lib.hid (fun w h => dropZeros_any B b (bs (l'.dropWhile isD)) (k' ++ num (l'.takeWhile isD)) w h (by rw [List.length_append]; omega))
    have HSK := Lib.hid (fun w h => skip_any B b 46 (l'.dropWhile isD) (k' ++ num (l'.takeWhile isD)) w h (by omega))
    have hE := bs_eqE (l'.takeWhile isD)
    have hF := bs_eqE (l'.dropWhile isD)
    generalize hs1 : bs (l'.takeWhile isD) = s1 at *
    have HS1 := Lib.hid hs1
    generalize hs2 : bs (l'.dropWhile isD) = s2 at *
    have HS2 := Lib.hid hs2
    clear hs1 hs2
    by_cases h0 : l'.takeWhile isD = []
    · have HX := Lib.hid (show dotS l k = none by rw [← HI.out]; exact dotS_1 h0)
      have hE2 : (s1.toList == []) = true := by rw [hE, h0]; rfl
      clear hE hF h0
      go_wp2_with fail
      refine HT.out.mono ?_
      rintro e w1 ⟨rfl, r1, b1⟩
      have R1 := Lib.hid r1; have B1 := Lib.hid b1; clear r1 b1
      go_wp2_with fail
      go_ret
      exact PostK.mk0 HX.out (HBE.out.trans B1.out)
    · have hE2 : (s1.toList == []) = false := by rw [hE]; exact beq_eq_false_iff_ne.2 h0
      have HNE := Lib.hid h0
      have hpos := len_pos h0
      clear hE h0
      by_cases h2 : l'.dropWhile isD = []
      · have HX := Lib.hid (show dotS l k = some (dz (k' ++ num (l'.takeWhile isD))) by rw [← HI.out]; exact dotS_2 HNE.out h2)
        have hF2 : (s2.toList == []) = true := by rw [hF, h2]; rfl
        clear hF h2
        go_wp2_with fail
        refine HT.out.mono ?_
        rintro e w1 ⟨rfl, r1, b1⟩
        have R1 := Lib.hid r1; have B1 := Lib.hid b1; clear r1 b1
        go_wp2_with fail
        refine (HN.out _ R1.out).mono ?_
        rintro e w2 ⟨rfl, r2, b2⟩
        have hr2 := r2.rest
        have R2 := Lib.hid r2; have B2 := Lib.hid b2; clear r2 b2
        go_wp2_with fail
        refine (HDZ.out _ R2.out).mono ?_
        rintro e w3 ⟨rfl, r3, b3⟩
        have R3 := Lib.hid r3; have B3 := Lib.hid b3; clear r3 b3
        go_wp2_with fail
        go_ret
        exact PostK.mk1 HX.out (((HBE.out.trans B1.out).trans B2.out).trans B3.out) R3.out
      · have hF2 : (s2.toList == []) = false := by rw [hF]; exact beq_eq_false_iff_ne.2 h2
        have HNE2 := Lib.hid h2
        clear hF h2
        obtain ⟨q, hq⟩ : ∃ q, skB 46 (l'.dropWhile isD) = q := ⟨_, rfl⟩
        have HQ := Lib.hid hq
        rw [hq] at HSK
        clear hq
        cases q
        · have HX := Lib.hid (show dotS l k = none by rw [← HI.out]; exact dotS_3 HNE.out HNE2.out HQ.out)
          go_wp2_with fail
          refine HT.out.mono ?_
          rintro e w1 ⟨rfl, r1, b1⟩
          have R1 := Lib.hid r1; have B1 := Lib.hid b1; clear r1 b1
          go_wp2_with fail
          refine (HN.out _ R1.out).mono ?_
          rintro e w2 ⟨rfl, r2, b2⟩
          have hr2 := r2.rest
          have R2 := Lib.hid r2; have B2 := Lib.hid b2; clear r2 b2
          go_wp2_with fail
          refine (HSK.out _ R2.out).mono ?_
          rintro e w3 ⟨rfl, r3, b3⟩
          have R3 := Lib.hid r3; have B3 := Lib.hid b3; clear r3 b3
          go_wp2_with fail
          go_ret
          exact PostK.mk0 HX.out (((HBE.out.trans B1.out).trans B2.out).trans B3.out)
        · have HX := Lib.hid (show dotS ((l'.dropWhile isD).drop 1) (k' ++ num (l'.takeWhile isD)) = dotS l k by rw [← HI.out]; exact (dotS_4 HNE.out HNE2.out HQ.out).symm)
          have HL := Lib.hid (skL_yes HQ.out)
          have hpos2 := skB_len HQ.out
          go_wp2_with fail
          refine HT.out.mono ?_
          rintro e w1 ⟨rfl, r1, b1⟩
          have R1 := Lib.hid r1; have B1 := Lib.hid b1; clear r1 b1
          go_wp2_with fail
          refine (HN.out _ R1.out).mono ?_
          rintro e w2 ⟨rfl, r2, b2⟩
          have hr2 := r2.rest
          have R2 := Lib.hid r2; have B2 := Lib.hid b2; clear r2 b2
          go_wp2_with fail
          refine (HSK.out _ R2.out).mono ?_
          rintro e w3 ⟨rfl, r3, b3⟩
          rw [HL.out] at r3
          have R3 := Lib.hid r3; have B3 := Lib.hid b3; clear r3 b3
          go_wp2_with fail
          go_roundg ((l'.dropWhile isD).drop 1).length
          case rel => exact ⟨(l'.dropWhile isD).drop 1, k' ++ num (l'.takeWhile isD), rfl, by rw [List.length_drop]; omega, by rw [List.length_drop, List.length_append]; omega, HX.out, R3.out, ((HBE.out.trans B1.out).trans B2.out).trans B3.out⟩
          case measure => rw [List.length_drop]; omega
/-- whether there is an epoch; its digits; what is behind it -/
def hasE (l : BL) : Bool := !(l.takeWhile isD == []) && skB 58 (l.dropWhile isD)
def epD (l : BL) : BL := if hasE l = true then l.takeWhile isD else []
def epL (l : BL) : BL := if hasE l = true then (l.dropWhile isD).drop 1 else l
theorem Rd.setRow {B : Nat} {w : World} {b : Nat} {r : ByteArray} {k : BL} (h : Rd B w b r k) {s : ByteArray} {w' : World} (hw : w' = w.setCell ⟨b, 0, none⟩ (.string s)) : Rd B w' b s k := by subst hw; exact h.set s
set_option maxRecDepth 100000 in
set_option maxHeartbeats 2000000 in
theorem epoch_any (B b : Nat) (l k : BL) (w : World) (h : Rd B w b (bs l) k) (hl : l.length ≤ 64) (hk : k.length + 4 * l.length ≤ 900) :
    Calls Tryz.prog 58 #[.pointer (some ⟨b, 0, none⟩)] w fun e w' => e = .returned (.tuple #[]) ∧ Rd B w' b (bs (epL l)) (k ++ num (epD l)) ∧ Below B w w' := by
  have h0 := h.rest
  have hB := h.1
  have hlt := h.lt
  have t1 := tw_len isD l
  have HA := Lib.hid ((Below.refl B w).alloc (by omega) (.cells #[.string (bs l)] 49))
  have HRA := Lib.hid (h.below ((Below.refl w.heap.size w).alloc (Nat.le_refl _) (.cells #[.string (bs l)] 49)) (Nat.le_refl _))
  have HT := Lib.hid (takeX_digit B b l k (w.alloc (.cells #[.string (bs l)] 49)) HRA.out (by omega))
  have HSK := Lib.hid (fun w h => skipX_any B b 58 (l.dropWhile isD) k w h (by omega))
  have HN1 := Lib.hid (fun w h => number_any B b (l.takeWhile isD) (bs ((l.dropWhile isD).drop 1)) k w h (by omega) (by omega))
  have HN0 := Lib.hid (fun w h => number_any B b [] (bs l) k w h (by omega) (by simp))
  have hE := bs_eqE (l.takeWhile isD)
  have hs0 : (w.alloc (.cells #[.string (bs l)] 49)).cell? ⟨w.heap.size, 0, none⟩ = some (.string (bs l)) := by rw [cell_of_row _ w.heap.size 0 _ _ _ (heap_alloc_new w _)]; rfl
  generalize hs1 : bs (l.takeWhile isD) = s1 at *
  clear h hs1
  obtain ⟨W1, hW1⟩ : ∃ W1, (w.alloc (.cells #[.string (bs l)] 49)).setCell ⟨b, 0, none⟩ (.string (bs (l.dropWhile isD))) = W1 := ⟨_, rfl⟩
  have HW1 := Lib.hid hW1
  have HR1 := Lib.hid (show Rd B W1 b (bs (l.dropWhile isD)) k from HRA.out.setRow hW1.symm)
  have HB1 := Lib.hid (show Below B w W1 by rw [← hW1]; exact HA.out.setCell hB _)
  have hc1 : W1.cell? ⟨w.heap.size, 0, none⟩ = some (.string (bs l)) := by
    rw [← hW1, World.cell?_of_block (heap_setCell_other _ ⟨b, 0, none⟩ w.heap.size _ (by show w.heap.size ≠ b; omega))]; exact hs0
  rw [hW1] at HT
  have HE : Hid (hasE l = (!(l.takeWhile isD == []) && skB 58 (l.dropWhile isD))) := rfl
  clear hs0 hW1 HA
  by_cases he : l.takeWhile isD = []
  · have hE2 : (s1.toList == []) = true := by rw [hE, he]; rfl
    have HF := Lib.hid (show hasE l = false by rw [HE.out, he]; rfl)
    have HD0 := Lib.hid (show epD l = [] by unfold epD; rw [HF.out]; rfl)
    have HL0 := Lib.hid (show epL l = l by unfold epL; rw [HF.out]; rfl)
    clear hE he
    have hc0 := HR1.out.rest
    have hf0 := HR1.out.frozen
    have HFIN := Lib.hid (show Rd B (W1.setCell ⟨b, 0, none⟩ (.string (bs l))) b (bs l) k from HR1.out.set _)
    have e0 : (bs []) = ⟨#[]⟩ := rfl
    rw [e0] at HN0
    clear e0
    rw [HD0.out, HL0.out]
    go_enter Tryz.func58, Tryz.ntmps58
    go_wp2_with fail
    refine HT.out.mono ?_
    rintro e w1 ⟨rfl, rfl⟩
    go_wp2_with fail
    refine (HN0.out _ HFIN.out).mono ?_
    rintro e w2 ⟨rfl, r2, b2⟩
    have R2 := Lib.hid r2; have B2 := Lib.hid b2; clear r2 b2
    go_wp2_with fail
    go_end0
    exact ⟨rfl, R2.out, (HB1.out.setCell hB _).trans B2.out⟩
  · have hE2 : (s1.toList == []) = false := by rw [hE]; exact beq_eq_false_iff_ne.2 he
    have HNE := Lib.hid (show (l.takeWhile isD == []) = false from beq_eq_false_iff_ne.2 he)
    clear hE he
    obtain ⟨q, hq⟩ : ∃ q, skB 58 (l.dropWhile isD) = q := ⟨_, rfl⟩
    have HQ := Lib.hid hq
    rw [hq] at HSK
    clear hq
    cases q
    · have HF := Lib.hid (show hasE l = false by rw [HE.out, HNE.out, HQ.out]; rfl)
      have HD0 := Lib.hid (show epD l = [] by unfold epD; rw [HF.out]; rfl)
      have HL0 := Lib.hid (show epL l = l by unfold epL; rw [HF.out]; rfl)
      have HSW := Lib.hid (show ∀ w, skW w b 58 (l.dropWhile isD) = w from fun w => skW_no HQ.out)
      have hc0 := HR1.out.rest
      have hf0 := HR1.out.frozen
      have HFIN := Lib.hid (show Rd B (W1.setCell ⟨b, 0, none⟩ (.string (bs l))) b (bs l) k from HR1.out.set _)
      have e0 : (bs []) = ⟨#[]⟩ := rfl
      rw [e0] at HN0
      clear e0
      rw [HD0.out, HL0.out]
      go_enter Tryz.func58, Tryz.ntmps58
      go_wp2_with fail
      refine HT.out.mono ?_
      rintro e w1 ⟨rfl, rfl⟩
      go_wp2_with fail
      refine (HSK.out _ HR1.out).mono ?_
      rintro e w2 ⟨rfl, rfl⟩
      rw [HSW.out]
      go_wp2_with fail
      refine (HN0.out _ HFIN.out).mono ?_
      rintro e w2 ⟨rfl, r2, b2⟩
      have R2 := Lib.hid r2; have B2 := Lib.hid b2; clear r2 b2
      go_wp2_with fail
      go_end0
      exact ⟨rfl, R2.out, (HB1.out.setCell hB _).trans B2.out⟩
    · have HF := Lib.hid (show hasE l = true by rw [HE.out, HNE.out, HQ.out]; rfl)
      have HD0 := Lib.hid (show epD l = l.takeWhile isD by unfold epD; rw [HF.out]; rfl)
      have HL0 := Lib.hid (show epL l = (l.dropWhile isD).drop 1 by unfold epL; rw [HF.out]; rfl)
      have HSW := Lib.hid (show ∀ w, skW w b 58 (l.dropWhile isD) = w.setCell ⟨b, 0, none⟩ (.string (bs ((l.dropWhile isD).drop 1))) from fun w => skW_yes HQ.out (skL_yes HQ.out))
      have HFIN := Lib.hid (show Rd B (W1.setCell ⟨b, 0, none⟩ (.string (bs ((l.dropWhile isD).drop 1)))) b (bs ((l.dropWhile isD).drop 1)) k from HR1.out.set _)
      rw [HD0.out, HL0.out]
      clear HL0
      generalize bs ((l.dropWhile isD).drop 1) = s2 at *
      go_enter Tryz.func58, Tryz.ntmps58
      go_wp2_with fail
      refine HT.out.mono ?_
      rintro e w1 ⟨rfl, rfl⟩
      go_wp2_with fail
      refine (HSK.out _ HR1.out).mono ?_
      rintro e w2 ⟨rfl, rfl⟩
      rw [HSW.out]
      go_wp2_with fail
      refine (HN1.out _ HFIN.out).mono ?_
      rintro e w2 ⟨rfl, r2, b2⟩
      have R2 := Lib.hid r2; have B2 := Lib.hid b2; clear r2 b2
      go_wp2_with fail
      go_end0
      exact ⟨rfl, R2.out, (HB1.out.setCell hB _).trans B2.out⟩
end Go.Proofs.YtceeilojcifgeaaGreatDoor
