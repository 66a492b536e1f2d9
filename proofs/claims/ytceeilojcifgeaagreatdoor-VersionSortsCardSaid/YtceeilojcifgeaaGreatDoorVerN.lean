/-
  Versions: the walk of prefix (conditions: at most 64 bytes to be read).
-/
import Derived.Test.YtceeilojcifgeaaGreatDoorVerL
import Derived.Lib.ConvBytes
namespace Go.Proofs.YtceeilojcifgeaaGreatDoor
open Go.RowKit

theorem marks_snoc : ∀ (a : BL) (c : UInt8) (p : BL) (m : UInt8), marks6 a = some p → mark6 c = some m → marks6 (a ++ [c]) = some (p ++ [m])
  | [], c, p, m, h1, h2 => by injection h1 with h1; subst h1; show (match mark6 c with | none => none | some m => (marks6 []).map (m :: ·)) = _; rw [h2]; rfl
  | d :: a, c, p, m, h1, h2 => by
    rw [List.cons_append]
    unfold marks6 at h1 ⊢
    cases hd : mark6 d with
    | none => rw [hd] at h1; cases h1
    | some n =>
      rw [hd] at h1
      obtain ⟨q, hq, rfl⟩ := Option.map_eq_some_iff.1 h1
      simp only []
      rw [marks_snoc a c q m hq h2]; rfl
theorem marks_fail : ∀ (a : BL) (c : UInt8) (r : BL), mark6 c = none → marks6 (a ++ c :: r) = none
  | [], c, r, h => by rw [List.nil_append]; unfold marks6; rw [h]
  | d :: a, c, r, h => by
    rw [List.cons_append]; unfold marks6
    rw [marks_fail a c r h]
    cases mark6 d <;> rfl
theorem marks_len : ∀ (a p : BL), marks6 a = some p → p.length = a.length
  | [], p, h => by injection h with h; subst h; rfl
  | d :: a, p, h => by
    unfold marks6 at h
    cases hd : mark6 d with
    | none => rw [hd] at h; cases h
    | some n =>
      rw [hd] at h
      obtain ⟨q, hq, rfl⟩ := Option.map_eq_some_iff.1 h
      rw [List.length_cons, List.length_cons, marks_len a q hq]
/-- a prefix without digits -/
def pfxS (l k : BL) : Option (BL × BL) := match marks6 (l.takeWhile notDV) with
  | none => none
  | some p => some (l.dropWhile notDV, (k ++ p) ++ [2])
theorem pfxS_no {l k : BL} (h : marks6 (l.takeWhile notDV) = none) : pfxS l k = none := by unfold pfxS; rw [h]
theorem pfxS_yes {l k p : BL} (h : marks6 (l.takeWhile notDV) = some p) : pfxS l k = some (l.dropWhile notDV, (k ++ p) ++ [2]) := by unfold pfxS; rw [h]
theorem mark_tilde : mark6 126 = some 1 := by decide
theorem mark_letter {c : UInt8} (h : c ≠ 126) (h2 : isL c = true) : mark6 c = some c := by unfold mark6; rw [if_neg h, if_pos h2]
theorem mark_other {c : UInt8} (h : c ≠ 126) (h2 : isL c = false) (h3 : c = 46 ∨ c = 43 ∨ c = 45) : mark6 c = some (128 + c) := by unfold mark6; rw [if_neg h, h2, if_neg (by simp), if_pos h3]
theorem mark_none {c : UInt8} (h : c ≠ 126) (h2 : isL c = false) (h3 : ¬ (c = 46 ∨ c = 43 ∨ c = 45)) : mark6 c = none := by unfold mark6; rw [if_neg h, h2, if_neg (by simp), if_neg h3]
theorem ne_int {c d : UInt8} (h : c ≠ d) : ((c.toNat : Int) == (d.toNat : Int)) = false := by
  rw [beq_eq_false_iff_ne]; intro e; exact h (UInt8.toNat_inj.1 (by omega))
theorem below_bytesV (w : World) (e : TypeId) (s : ByteArray) : Below w.heap.size w (Lib.bytesWorld w e s) :=
  ⟨by simp [Lib.bytesWorld, World.freeze]; rfl, by simp [Lib.bytesWorld, World.freeze], by simp [Lib.bytesWorld, World.freeze]; rfl, by rw [Lib.bytesWorld_size]; omega, fun k hk => Lib.bytesWorld_at_old w e s k hk⟩
set_option maxRecDepth 100000 in
set_option maxHeartbeats 4000000 in
theorem prefix_any (B b : Nat) (l k : BL) (w : World) (h : Rd B w b (bs l) k) (hl : l.length ≤ 64) (hk : k.length + 4 * l.length ≤ 900) :
    Calls Tryz.prog 82 #[.pointer (some ⟨b, 0, none⟩)] w (Post B b w (pfxS l k)) := by
  have hB := h.1
  have HT := Lib.hid (take_notDigit B b l k w h (by omega))
  have t1 := tw_len notDV l
  have HS0 := Lib.hid (show ∀ p, marks6 (l.takeWhile notDV) = some p → pfxS l k = some (l.dropWhile notDV, (k ++ p) ++ [2]) from fun p h => pfxS_yes h)
  have HS1 := Lib.hid (show marks6 (l.takeWhile notDV) = none → pfxS l k = none from fun h => pfxS_no h)
  generalize l.takeWhile notDV = t at *
  generalize l.dropWhile notDV = u at *
  have HM := Lib.hid (fun (m : UInt8) (k' : BL) w h (hk' : k'.length ≤ 1000) => markX_any B b m (bs u) k' w h (by omega))
  have HL := Lib.hid (fun (c : UInt8) w => letter_any c w)
  clear h
  go_enter Tryz.func82, Tryz.ntmps82
  go_wp2_with fail
  refine HT.out.mono ?_
  rintro e w1 ⟨rfl, r1, b1⟩
  have hlt := r1.lt
  have hcv := Lib.run_convert_string_bytes (P := Tryz.prog) w1 9 50 5 (bs t) Tryz.underlying9 Tryz.underlying50 Tryz.underlying5
  have HROW := Lib.hid (Lib.bytesWorld_at_new w1 5 (bs t))
  have HCL := Lib.hid (fun j (hj : j < t.length) => Lib.bytesWorld_cell w1 5 (bs t) j (by rw [bs_size]; exact hj))
  have HBW := Lib.hid (below_bytesV w1 5 (bs t))
  have R1 := Lib.hid r1; have B1 := Lib.hid b1; clear r1 b1
  generalize hw2 : Lib.bytesWorld w1 5 (bs t) = w2 at *
  generalize grownCap w1 (bs t).size 0 5 = cap at *
  have hn : (bs t).size = t.length := bs_size t
  rw [hn] at hcv
  clear hn hw2
  have hlt2 : b < w2.heap.size := Nat.lt_of_lt_of_le hlt HBW.out.size
  have HRD0 := Lib.hid (R1.out.below HBW.out (Nat.le_refl _))
  have HB0 := Lib.hid (B1.out.trans (HBW.out.mono (show B ≤ w1.heap.size by omega)))
  obtain ⟨g, hg⟩ : ∃ g, w1.heap.size = g := ⟨_, rfl⟩
  have HGB := Lib.hid (show g ≠ b by omega)
  rw [hg] at HROW HCL hcv
  clear hlt hg
  go_wp2_with fail
  go_loopw [4, 11] (fun _ i wr => ∃ (j : Nat) (p : BL), j ≤ t.length ∧ i = .int .i64 j ∧ p.length = j ∧ Hid (marks6 (t.take j) = some p ∧ wr.heap[g]? = w2.heap[g]? ∧ Rd B wr b (bs u) (k ++ p) ∧ Below B w wr)) (fun _ i _ => t.length - (intOf i).toNat)
  case atStart => exact ⟨0, [], Nat.zero_le _, rfl, rfl, by rw [List.take_zero]; rfl, rfl, by rw [List.append_nil]; exact HRD0.out, HB0.out⟩
  case round =>
    obtain ⟨j, p, hj, rfl, hpl, HR⟩ := hrel
    have HRD := Lib.hid HR.out.2.2.1
    have HBE := Lib.hid HR.out.2.2.2
    have HKG := Lib.hid HR.out.2.1
    by_cases hlt : j < t.length
    · obtain ⟨c, hc⟩ : ∃ c, t[j] = c := ⟨_, rfl⟩
      have HCE := Lib.hid (show t.take (j + 1) = t.take j ++ [c] by rw [List.take_succ_eq_append_getElem hlt, hc])
      have HCF := Lib.hid (show t = t.take j ++ c :: t.drop (j + 1) by rw [← hc, ← List.drop_eq_getElem_cons hlt, List.take_append_drop])
      have hcell : wr.cell? ⟨g, j, none⟩ = some (.int .u8 (c.toNat : Int)) := by
        rw [World.cell?_of_block (w := w2) (a := ⟨g, j, none⟩) HKG.out, HCL.out j hlt, bs_data, List.getD_eq_getElem?_getD, List.getElem?_eq_getElem hlt, hc]; rfl
      have hd : decide ((j : Int) < (t.length : Int)) = true := by simp; omega
      have q0 : (0 : Int) ≤ (j : Int) := by omega
      have q1 : (j : Int) < (t.length : Int) := by omega
      clear hc
      have hkp : (k ++ p).length ≤ 1000 := by rw [List.length_append]; omega
      have FIN := Lib.hid (show ∀ m w3, mark6 c = some m → Rd B w3 b (bs u) ((k ++ p) ++ [m]) → Below B wr w3 → MarkedKept b wr w3 → ∃ p' : BL, p'.length = j + 1 ∧ Hid (marks6 (t.take (j + 1)) = some p' ∧ w3.heap[g]? = w2.heap[g]? ∧ Rd B w3 b (bs u) (k ++ p') ∧ Below B w w3) by
        intro m w3 hm r3 b3 k3
        refine ⟨p ++ [m], by rw [List.length_append, hpl]; rfl, ?_, ?_, ?_, ?_⟩
        · rw [HCE.out]; exact marks_snoc _ _ _ _ HR.out.1 hm
        · rw [← HKG.out]
          exact k3 g HGB.out ⟨_, _, _, by simp, HKG.out.trans HROW.out⟩
        · rw [← List.append_assoc]; exact r3
        · exact HBE.out.trans b3)
      by_cases h1 : c = 126
      · subst h1
        have HF2 := Lib.hid (fun w3 => FIN.out 1 w3 mark_tilde)
        go_wp2_with fail
        refine (HM.out 1 _ _ HRD.out hkp).mono ?_
        rintro e w3 ⟨rfl, ⟨r3, b3⟩, k3⟩
        obtain ⟨p', hp', HX⟩ := HF2.out w3 r3 b3 k3
        clear r3 b3 k3
        go_wp2_with fail
        go_roundw
        case rel => exact ⟨j + 1, p', by omega, by go_num, hp', HX⟩
        case measure => simp [intOf]; omega
      · have e1 : ((c.toNat : Int) == 126) = false := ne_int (d := 126) h1
        have HN1 := Lib.hid h1; clear h1
        cases h2 : isL c
        · have HL2 := Lib.hid (fun w => (h2 ▸ HL.out c w : Calls _ _ _ w _))
          have HN2 := Lib.hid h2; clear h2
          by_cases h3 : c = 46
          · subst h3
            have HF2 := Lib.hid (fun w3 => FIN.out 174 w3 (mark_other HN1.out HN2.out (by decide)))
            clear e1
            go_wp2_with fail
            refine (HL2.out _).mono ?_
            rintro e w' ⟨rfl, rfl⟩
            go_wp2_with fail
            refine (HM.out 174 _ _ HRD.out hkp).mono ?_
            rintro e w3 ⟨rfl, ⟨r3, b3⟩, k3⟩
            obtain ⟨p', hp', HX⟩ := HF2.out w3 r3 b3 k3
            clear r3 b3 k3
            go_wp2_with fail
            go_roundw
            case rel => exact ⟨j + 1, p', by omega, by go_num, hp', HX⟩
            case measure => simp [intOf]; omega
          · have e2 : ((c.toNat : Int) == 46) = false := ne_int (d := 46) h3
            have HN3 := Lib.hid h3; clear h3
            by_cases h3 : c = 43
            · subst h3
              have HF2 := Lib.hid (fun w3 => FIN.out 171 w3 (mark_other HN1.out HN2.out (by decide)))
              clear e1
              go_wp2_with fail
              refine (HL2.out _).mono ?_
              rintro e w' ⟨rfl, rfl⟩
              go_wp2_with fail
              refine (HM.out 171 _ _ HRD.out hkp).mono ?_
              rintro e w3 ⟨rfl, ⟨r3, b3⟩, k3⟩
              obtain ⟨p', hp', HX⟩ := HF2.out w3 r3 b3 k3
              clear r3 b3 k3
              go_wp2_with fail
              go_roundw
              case rel => exact ⟨j + 1, p', by omega, by go_num, hp', HX⟩
              case measure => simp [intOf]; omega
            · have e3 : ((c.toNat : Int) == 43) = false := ne_int (d := 43) h3
              have HN4 := Lib.hid h3; clear h3
              by_cases h3 : c = 45
              · subst h3
                have HF2 := Lib.hid (fun w3 => FIN.out 173 w3 (mark_other HN1.out HN2.out (by decide)))
                clear e1
                go_wp2_with fail
                refine (HL2.out _).mono ?_
                rintro e w' ⟨rfl, rfl⟩
                go_wp2_with fail
                refine (HM.out 173 _ _ HRD.out hkp).mono ?_
                rintro e w3 ⟨rfl, ⟨r3, b3⟩, k3⟩
                obtain ⟨p', hp', HX⟩ := HF2.out w3 r3 b3 k3
                clear r3 b3 k3
                go_wp2_with fail
                go_roundw
                case rel => exact ⟨j + 1, p', by omega, by go_num, hp', HX⟩
                case measure => simp [intOf]; omega
              · have e4 : ((c.toNat : Int) == 45) = false := ne_int (d := 45) h3
                have HX := Lib.hid (HS1.out (by
                  rw [HCF.out]
                  exact marks_fail _ _ _ (mark_none HN1.out HN2.out (fun h => h.elim HN3.out (fun h => h.elim HN4.out h3)))))
                clear h3
                go_wp2_with fail
                refine (HL2.out _).mono ?_
                rintro e w' ⟨rfl, rfl⟩
                go_wp2_with fail
                go_ret
                exact Post.mk0 HX.out HBE.out
        · have HL2 := Lib.hid (fun w => (h2 ▸ HL.out c w : Calls _ _ _ w _))
          have HF2 := Lib.hid (fun w3 => FIN.out c w3 (mark_letter HN1.out h2))
          clear h2
          go_wp2_with fail
          refine (HL2.out _).mono ?_
          rintro e w' ⟨rfl, rfl⟩
          go_wp2_with fail
          refine (HM.out c _ _ HRD.out hkp).mono ?_
          rintro e w3 ⟨rfl, ⟨r3, b3⟩, k3⟩
          obtain ⟨p', hp', HX⟩ := HF2.out w3 r3 b3 k3
          clear r3 b3 k3
          go_wp2_with fail
          go_roundw
          case rel => exact ⟨j + 1, p', by omega, by go_num, hp', HX⟩
          case measure => simp [intOf]; omega
    · obtain rfl : j = t.length := by omega
      have HX := Lib.hid (HS0.out p (by have := HR.out.1; rwa [List.take_length] at this))
      have hkp : (k ++ p).length ≤ 1000 := by rw [List.length_append]; omega
      go_wp2_with fail
      refine (HM.out 2 _ _ HRD.out hkp).mono ?_
      rintro e w3 ⟨rfl, ⟨r3, b3⟩, -⟩
      have R3 := Lib.hid r3; have B3 := Lib.hid b3; clear r3 b3
      go_wp2_with fail
      go_ret
      exact Post.mk1 HX.out (HBE.out.trans B3.out) R3.out
end Go.Proofs.YtceeilojcifgeaaGreatDoor
