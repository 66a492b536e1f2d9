/-
  Versions: the walks of part and debian (conditions: at most 64 bytes to be read).
-/
import Derived.Test.YtceeilojcifgeaaGreatDoorVerN
import Derived.RegionTactic
import Derived.Deep.RegionWith
import Derived.ChangeAlike
namespace Go.Proofs.YtceeilojcifgeaaGreatDoor
open Go.RowKit

theorem notDV_eq : notDV = notD := rfl
theorem part6_no {l : BL} (h : marks6 (l.takeWhile notD) = none) : part6 l = none := by rw [part6, h]
theorem part6_end {l p : BL} (h : marks6 (l.takeWhile notD) = some p) (hr : rest6 l = []) : part6 l = some (p ++ 2 :: (num (dig6 l) ++ [2])) := by
  rw [part6, h]; simp only [hr, dite_true]
theorem part6_on {l p : BL} (h : marks6 (l.takeWhile notD) = some p) (hr : rest6 l ≠ []) : part6 l = (part6 (rest6 l)).map (fun q => p ++ 2 :: (num (dig6 l) ++ q)) := by
  rw [part6, h]; simp only [hr, dite_false]
/-- what a part adds to the key -/
def prtS (l k : BL) : Option BL := (part6 l).map (k ++ ·)
theorem prtS_no {l k : BL} (h : marks6 (l.takeWhile notD) = none) : prtS l k = none := by unfold prtS; rw [part6_no h]; rfl
theorem prtS_end {l k p : BL} (h : marks6 (l.takeWhile notD) = some p) (hr : rest6 l = []) : prtS l k = some (((k ++ p) ++ [2]) ++ num (dig6 l) ++ [2]) := by
  unfold prtS; rw [part6_end h hr]; simp
theorem prtS_on {l k p : BL} (h : marks6 (l.takeWhile notD) = some p) (hr : rest6 l ≠ []) : prtS l k = prtS (rest6 l) (((k ++ p) ++ [2]) ++ num (dig6 l)) := by
  unfold prtS; rw [part6_on h hr, Option.map_map]
  congr 1; funext q; simp
set_option maxRecDepth 100000 in
set_option maxHeartbeats 4000000 in
theorem part_any (B b : Nat) (s : BL) (r : BL) (k : BL) (w : World) (h : Rd B w b (bs r) k) (hl : s.length ≤ 64) (hk : k.length + 4 * s.length ≤ 800) :
    Calls Tryz.prog 61 #[.pointer (some ⟨b, 0, none⟩), .string (bs s)] w (PostK B b w (prtS s k)) := by
  have hB := h.1
  have h0 := h.rest
  have hf0 := h.frozen
  have HRS := Lib.hid (show Rd B (w.setCell ⟨b, 0, none⟩ (.string (bs s))) b (bs s) k from h.set _)
  have HBS := Lib.hid (show Below B w (w.setCell ⟨b, 0, none⟩ (.string (bs s))) from (Below.refl _ _).setCell hB _)
  clear h
  go_enter Tryz.func61, Tryz.ntmps61
  go_wp2_with fail
  generalize hw0 : w.setCell ⟨b, 0, none⟩ (.string (bs s)) = w0 at *
  clear hw0 hf0 h0
  go_loopg [5] (s.length + 1) (fun g d wr => (d = .bool false ∧ ∃ l' k' : BL, g = l'.length + 1 ∧ l'.length ≤ 64 ∧ k'.length + 4 * l'.length ≤ 800 ∧ Hid (prtS l' k' = prtS s k ∧ Rd B wr b (bs l') k' ∧ Below B w wr)) ∨ (d = .bool true ∧ g = 0 ∧ ∃ k' : BL, k'.length ≤ 900 ∧ ∃ r, Hid (prtS s k = some (k' ++ [2]) ∧ Rd B wr b r k' ∧ Below B w wr)))
  case atStart => exact Or.inl ⟨rfl, s, k, rfl, hl, hk, rfl, HRS.out, HBS.out⟩
  case round =>
    rcases hrel with ⟨rfl, l', k', hg, hl', hk', HR⟩ | ⟨rfl, hg, k', hk', r', HR⟩
    · have HI := Lib.hid HR.out.1
      have HBE := Lib.hid HR.out.2.2
      have HRR := Lib.hid HR.out.2.1
      have HP := Lib.hid (prefix_any B b l' k' wr HR.out.2.1 (by omega) (by omega))
      have t1 := tw_len notD l'
      have t2 := tw_len isD (l'.dropWhile notD)
      obtain ⟨o, ho⟩ : ∃ o, marks6 (l'.takeWhile notD) = o := ⟨_, rfl⟩
      cases o with
      | none =>
        have HX := Lib.hid (show prtS s k = none by rw [← HI.out]; exact prtS_no ho)
        have HY := Lib.hid (show pfxS l' k' = none from pfxS_no ho)
        rw [HY.out] at HP
        clear ho
        go_wp2_with fail
        refine HP.out.mono ?_
        rintro e w1 hp
        obtain ⟨rfl, b1⟩ := Post.none hp
        have B1 := Lib.hid b1; clear b1 hp
        go_wp2_with fail
        go_ret
        exact PostK.mk0 HX.out (HBE.out.trans B1.out)
      | some p =>
        have HY := Lib.hid (show pfxS l' k' = some (l'.dropWhile notD, (k' ++ p) ++ [2]) from pfxS_yes ho)
        rw [HY.out] at HP
        have hpl := marks_len _ _ ho
        have n1 := num_length (dig6 l')
        have d1 : (dig6 l').length + (rest6 l').length = (l'.dropWhile notD).length := t2
        have HT := Lib.hid (fun w h => take_digit B b (l'.dropWhile notD) ((k' ++ p) ++ [2]) w h (by omega))
        have HN := Lib.hid (fun w h => number_any B b (dig6 l') (bs (rest6 l')) ((k' ++ p) ++ [2]) w h (by simp only [List.length_append, List.length_singleton]; omega) (by omega))
        have HXE := Lib.hid (show rest6 l' = [] → prtS s k = some ((((k' ++ p) ++ [2]) ++ num (dig6 l')) ++ [2]) by intro h; rw [← HI.out]; exact prtS_end ho h)
        have HXO := Lib.hid (show rest6 l' ≠ [] → prtS (rest6 l') (((k' ++ p) ++ [2]) ++ num (dig6 l')) = prtS s k by intro h; rw [← HI.out]; exact (prtS_on ho h).symm)
        have hlen : (((k' ++ p) ++ [2]) ++ num (dig6 l')).length ≤ k'.length + p.length + 2 + (dig6 l').length := by simp only [List.length_append, List.length_singleton]; omega
        have hrl : l' ≠ [] → (rest6 l').length < l'.length := rest6_len l'
        rw [show (l'.dropWhile notD).takeWhile isD = dig6 l' from rfl, show (l'.dropWhile notD).dropWhile isD = rest6 l' from rfl] at HT
        generalize num (dig6 l') = nd at *
        generalize hs1 : bs (dig6 l') = s1 at *
        clear ho hs1
        go_wp2_with fail
        refine HP.out.mono ?_
        rintro e w1 hp
        obtain ⟨rfl, b1, r1⟩ := Post.some hp
        have B1 := Lib.hid b1; have R1 := Lib.hid r1; clear b1 r1 hp
        have HT2 := Lib.hid (HT.out w1.drew R1.out)
        go_wp2_with fail
        go_region_with (first
          | (go_at_call 62; (with_reducible refine HT2.out.mono ?_); rintro e w2 ⟨rfl, r2, b2⟩; have R2 := Lib.hid r2; have B2 := Lib.hid b2; clear r2 b2)
          | (go_at_call 63; (with_reducible refine (HN.out _ R2.out).mono ?_); rintro e w3 ⟨rfl, r3, b3⟩; have R3 := Lib.hid r3; have B3 := Lib.hid b3; clear r3 b3))
        all_goals
          have hr3 := R3.out.rest
          have hE := bs_eqE (rest6 l')
          by_cases h0 : rest6 l' = []
          · have hE2 : ((bs (rest6 l')).toList == []) = true := by rw [hE, h0]; rfl
            have HX := Lib.hid (HXE.out h0)
            clear hE h0 HXO HXE
            go_wp2
            go_roundg 0
            case rel => exact Or.inr ⟨rfl, rfl, (((k' ++ p) ++ [2]) ++ nd), by omega, bs (rest6 l'), HX.out, R3.out, (((HBE.out.trans B1.out).drew).trans B2.out).trans B3.out⟩
            case measure => omega
          · have hE2 : ((bs (rest6 l')).toList == []) = false := by rw [hE]; exact beq_eq_false_iff_ne.2 h0
            have HX := Lib.hid (HXO.out h0)
            have hpos := len_pos h0
            have hlt := hrl (by rintro rfl; exact h0 rfl)
            clear hE h0 HXO HXE hrl
            go_wp2
            go_roundg ((rest6 l').length + 1)
            case rel => exact Or.inl ⟨rfl, rest6 l', (((k' ++ p) ++ [2]) ++ nd), rfl, by omega, by omega, HX.out, R3.out, (((HBE.out.trans B1.out).drew).trans B2.out).trans B3.out⟩
            case measure => omega
    · have HM := Lib.hid (mark_any B b 2 r' k' wr HR.out.2.1 (by omega))
      have HX := Lib.hid HR.out.1
      have HBE := Lib.hid HR.out.2.2
      go_wp2_with fail
      refine HM.out.mono ?_
      rintro e w1 ⟨rfl, r1, b1⟩
      have R1 := Lib.hid r1; have B1 := Lib.hid b1; clear r1 b1
      go_wp2_with fail
      go_ret
      exact PostK.mk1 HX.out (HBE.out.trans B1.out) R1.out
end Go.Proofs.YtceeilojcifgeaaGreatDoor
