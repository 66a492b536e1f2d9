/-
  Versions: the walks of identifiers, prerelease, build, semver (conditions: at most 64 bytes to be read).
-/
import Derived.Test.YtceeilojcifgeaaGreatDoorVerI
namespace Go.Proofs.YtceeilojcifgeaaGreatDoor
open Go.RowKit

theorem skB_len {c : UInt8} {l : BL} (h : skB c l = true) : 0 < l.length := by
  cases l with
  | nil => cases h
  | cons _ _ => simp
/-- identifiers separated by dots, each accepted by f; what is left, and the key -/
def idsS (f : BL → Option BL) (l k : BL) : Option (BL × BL) :=
  if l.takeWhile isI = [] then none else match f (l.takeWhile isI) with
    | none => none
    | some x => if _h : skB 46 (l.dropWhile isI) = true then idsS f ((l.dropWhile isI).drop 1) (k ++ x) else some (l.dropWhile isI, k ++ x)
termination_by l.length
decreasing_by
  have h1 := skB_len _h; have h2 := dw_le isI l; rw [List.length_drop]; omega
theorem idsS_none {f : BL → Option BL} {l k : BL} (h : l.takeWhile isI = []) : idsS f l k = none := by rw [idsS, if_pos h]
theorem idsS_no {f : BL → Option BL} {l k : BL} (h : l.takeWhile isI ≠ []) (hf : f (l.takeWhile isI) = none) : idsS f l k = none := by rw [idsS, if_neg h, hf]
theorem idsS_end {f : BL → Option BL} {l k x : BL} (h : l.takeWhile isI ≠ []) (hf : f (l.takeWhile isI) = some x) (hs : skB 46 (l.dropWhile isI) = false) : idsS f l k = some (l.dropWhile isI, k ++ x) := by
  rw [idsS, if_neg h, hf]; simp only [hs]; rfl
theorem idsS_on {f : BL → Option BL} {l k x : BL} (h : l.takeWhile isI ≠ []) (hf : f (l.takeWhile isI) = some x) (hs : skB 46 (l.dropWhile isI) = true) : idsS f l k = idsS f ((l.dropWhile isI).drop 1) (k ++ x) := by
  rw [idsS, if_neg h, hf]; simp only [hs, dite_true]
theorem identS_le {w x : BL} (h : identS w = some x) : x.length ≤ w.length + 2 := by
  have h1 := num_length w
  unfold identS at h
  split at h
  · split at h
    · injection h with h; subst h; simp; omega
    · cases h
  · injection h with h; subst h; simp only [List.length_cons]; omega
def anyS (_ : BL) : Option BL := some []
theorem anyS_le {w x : BL} (h : anyS w = some x) : x.length ≤ w.length + 2 := by injection h with h; subst h; exact Nat.zero_le _
set_option maxHeartbeats 400000 in
theorem build1_any (B b : Nat) (l : BL) (r : ByteArray) (k : BL) (w : World) (h : Rd B w b r k) :
    Calls Tryz.prog 81 #[.string (bs l)] w (PostA B b w r k (anyS l)) := by
  have HH := Lib.hid h
  clear h
  go_enter Tryz.func81, Tryz.ntmps81
  go_wp2_with fail
  go_ret
  exact ⟨rfl, Below.refl _ _, fun x hx => by injection hx with hx; subst hx; simpa using HH.out⟩
set_option maxRecDepth 100000 in
set_option maxHeartbeats 2000000 in
theorem identifiers_ident (B b : Nat) (l k : BL) (w : World) (h : Rd B w b (bs l) k) (hl : l.length ≤ 64) (hk : k.length + 4 * l.length ≤ 900) :
    Calls Tryz.prog 79 #[.pointer (some ⟨b, 0, none⟩), .func (.func 80) #[.pointer (some ⟨b, 0, none⟩)] #[]] w (Post B b w (idsS identS l k)) := by
  have HH := Lib.hid h
  clear h
  go_enter Tryz.func79, Tryz.ntmps79
  go_wp2_with fail
  go_loopg [5] l.length (fun g _ wr => ∃ l' k' : BL, l'.length = g ∧ l'.length ≤ 64 ∧ k'.length + 4 * l'.length ≤ 900 ∧ Hid (idsS identS l' k' = idsS identS l k ∧ Rd B wr b (bs l') k' ∧ Below B w wr))
  case atStart => exact ⟨l, k, rfl, hl, hk, rfl, HH.out, Below.refl _ _⟩
  case round =>
    obtain ⟨l', k', hg, hl', hk', HR⟩ := hrel
    have HI := Lib.hid HR.out.1
    have HBE := Lib.hid HR.out.2.2
    have HT := Lib.hid (take_identifying B b l' k' wr HR.out.2.1 (by omega))
    have t1 := tw_len isI l'
    have hE : ((bs (l'.takeWhile isI)).toList == []) = (l'.takeWhile isI == []) := by rw [Lib.toList_data, bs_data]
    have HA := Lib.hid (fun w h hne => identifier_any B b (l'.takeWhile isI) (bs (l'.dropWhile isI)) k' w h (by omega) (by omega) hne)
    have HSK := Lib.hid (fun x w h => skip_any B b 46 (l'.dropWhile isI) (k' ++ x) w h (by omega))
    generalize hs1 : bs (l'.takeWhile isI) = s1 at *
    have HS1 := Lib.hid hs1
    by_cases h0 : l'.takeWhile isI = []
    · have HX := Lib.hid (show idsS identS l k = none by rw [← HI.out]; exact idsS_none h0)
      have hE2 : (s1.toList == []) = true := by rw [hE, h0]; rfl
      clear hE h0 hs1
      go_wp2_with fail
      refine HT.out.mono ?_
      rintro e w1 ⟨rfl, r1, b1⟩
      have R1 := Lib.hid r1; have B1 := Lib.hid b1; clear r1 b1
      go_wp2_with fail
      go_ret
      exact Post.mk0 HX.out (HBE.out.trans B1.out)
    · have hE2 : (s1.toList == []) = false := by rw [hE]; exact beq_eq_false_iff_ne.2 h0
      have HNE := Lib.hid h0
      have hpos : 1 ≤ (l'.takeWhile isI).length := by
        rcases Nat.eq_zero_or_pos (l'.takeWhile isI).length with h | h
        · exact absurd (List.eq_nil_of_length_eq_zero h) h0
        · exact h
      clear hE hs1 h0
      have HO : ∃ o, identS (l'.takeWhile isI) = o := ⟨_, rfl⟩
      obtain ⟨o, ho⟩ := HO
      rw [ho] at HA
      have HOO := Lib.hid ho
      clear ho
      cases o with
      | none =>
        have HX := Lib.hid (show idsS identS l k = none by rw [← HI.out]; exact idsS_no HNE.out HOO.out)
        go_wp2_with fail
        refine HT.out.mono ?_
        rintro e w1 ⟨rfl, r1, b1⟩
        have R1 := Lib.hid r1; have B1 := Lib.hid b1; clear r1 b1
        go_wp2_with fail
        refine (HA.out _ R1.out HNE.out).mono ?_
        rintro e w2 ⟨rfl, b2, -⟩
        have B2 := Lib.hid b2; clear b2
        go_wp2_with fail
        go_ret
        exact Post.mk0 HX.out ((HBE.out.trans B1.out).trans B2.out)
      | some x =>
        have hxl := identS_le HOO.out
        obtain ⟨q, hq⟩ : ∃ q, skB 46 (l'.dropWhile isI) = q := ⟨_, rfl⟩
        have HQ := Lib.hid hq
        rw [hq] at HSK
        clear hq
        cases q
        · have HX := Lib.hid (show idsS identS l k = some (l'.dropWhile isI, k' ++ x) by rw [← HI.out]; exact idsS_end HNE.out HOO.out HQ.out)
          have HL := Lib.hid (show skL 46 (l'.dropWhile isI) = l'.dropWhile isI by unfold skL; rw [HQ.out]; rfl)
          go_wp2_with fail
          refine HT.out.mono ?_
          rintro e w1 ⟨rfl, r1, b1⟩
          have R1 := Lib.hid r1; have B1 := Lib.hid b1; clear r1 b1
          go_wp2_with fail
          refine (HA.out _ R1.out HNE.out).mono ?_
          rintro e w2 ⟨rfl, b2, r2⟩
          have B2 := Lib.hid b2; have R2 := Lib.hid (r2 x rfl); clear b2 r2
          go_wp2_with fail
          refine (HSK.out x _ R2.out).mono ?_
          rintro e w3 ⟨rfl, r3, b3⟩
          have R3 := Lib.hid r3; have B3 := Lib.hid b3; clear r3 b3
          go_wp2_with fail
          go_ret
          exact Post.mk1 HX.out (((HBE.out.trans B1.out).trans B2.out).trans B3.out) (by have := R3.out; rwa [HL.out] at this)
        · have HX := Lib.hid (show idsS identS ((l'.dropWhile isI).drop 1) (k' ++ x) = idsS identS l k by rw [← HI.out]; exact (idsS_on HNE.out HOO.out HQ.out).symm)
          have HL := Lib.hid (show skL 46 (l'.dropWhile isI) = (l'.dropWhile isI).drop 1 by unfold skL; rw [HQ.out]; rfl)
          have hpos2 := skB_len HQ.out
          go_wp2_with fail
          refine HT.out.mono ?_
          rintro e w1 ⟨rfl, r1, b1⟩
          have R1 := Lib.hid r1; have B1 := Lib.hid b1; clear r1 b1
          go_wp2_with fail
          refine (HA.out _ R1.out HNE.out).mono ?_
          rintro e w2 ⟨rfl, b2, r2⟩
          have B2 := Lib.hid b2; have R2 := Lib.hid (r2 x rfl); clear b2 r2
          go_wp2_with fail
          refine (HSK.out x _ R2.out).mono ?_
          rintro e w3 ⟨rfl, r3, b3⟩
          have R3 := Lib.hid r3; have B3 := Lib.hid b3; clear r3 b3
          go_wp2_with fail
          go_roundg ((l'.dropWhile isI).drop 1).length
          case rel => exact ⟨(l'.dropWhile isI).drop 1, k' ++ x, rfl, by rw [List.length_drop]; omega, by rw [List.length_drop, List.length_append]; omega, HX.out, by have := R3.out; rwa [HL.out] at this, ((HBE.out.trans B1.out).trans B2.out).trans B3.out⟩
          case measure => rw [List.length_drop]; omega
set_option maxRecDepth 100000 in
set_option maxHeartbeats 2000000 in
theorem identifiers_build (B b : Nat) (l k : BL) (w : World) (h : Rd B w b (bs l) k) (hl : l.length ≤ 64) (hk : k.length + 4 * l.length ≤ 900) :
    Calls Tryz.prog 79 #[.pointer (some ⟨b, 0, none⟩), .func (.func 81) #[] #[]] w (Post B b w (idsS anyS l k)) := by
  have HH := Lib.hid h
  clear h
  go_enter Tryz.func79, Tryz.ntmps79
  go_wp2_with fail
  go_loopg [5] l.length (fun g _ wr => ∃ l' k' : BL, l'.length = g ∧ l'.length ≤ 64 ∧ k'.length + 4 * l'.length ≤ 900 ∧ Hid (idsS anyS l' k' = idsS anyS l k ∧ Rd B wr b (bs l') k' ∧ Below B w wr))
  case atStart => exact ⟨l, k, rfl, hl, hk, rfl, HH.out, Below.refl _ _⟩
  case round =>
    obtain ⟨l', k', hg, hl', hk', HR⟩ := hrel
    have HI := Lib.hid HR.out.1
    have HBE := Lib.hid HR.out.2.2
    have HT := Lib.hid (take_identifying B b l' k' wr HR.out.2.1 (by omega))
    have t1 := tw_len isI l'
    have hE : ((bs (l'.takeWhile isI)).toList == []) = (l'.takeWhile isI == []) := by rw [Lib.toList_data, bs_data]
    have HA := Lib.hid (fun w h hne => (fun (_ : l'.takeWhile isI ≠ []) => build1_any B b (l'.takeWhile isI) (bs (l'.dropWhile isI)) k' w h) hne)
    have HSK := Lib.hid (fun x w h => skip_any B b 46 (l'.dropWhile isI) (k' ++ x) w h (by omega))
    generalize hs1 : bs (l'.takeWhile isI) = s1 at *
    have HS1 := Lib.hid hs1
    by_cases h0 : l'.takeWhile isI = []
    · have HX := Lib.hid (show idsS anyS l k = none by rw [← HI.out]; exact idsS_none h0)
      have hE2 : (s1.toList == []) = true := by rw [hE, h0]; rfl
      clear hE h0 hs1
      go_wp2_with fail
      refine HT.out.mono ?_
      rintro e w1 ⟨rfl, r1, b1⟩
      have R1 := Lib.hid r1; have B1 := Lib.hid b1; clear r1 b1
      go_wp2_with fail
      go_ret
      exact Post.mk0 HX.out (HBE.out.trans B1.out)
    · have hE2 : (s1.toList == []) = false := by rw [hE]; exact beq_eq_false_iff_ne.2 h0
      have HNE := Lib.hid h0
      have hpos : 1 ≤ (l'.takeWhile isI).length := by
        rcases Nat.eq_zero_or_pos (l'.takeWhile isI).length with h | h
        · exact absurd (List.eq_nil_of_length_eq_zero h) h0
        · exact h
      clear hE hs1 h0
      have HO : ∃ o, anyS (l'.takeWhile isI) = o := ⟨_, rfl⟩
      obtain ⟨o, ho⟩ := HO
      rw [ho] at HA
      have HOO := Lib.hid ho
      clear ho
      cases o with
      | none =>
        have HX := Lib.hid (show idsS anyS l k = none by rw [← HI.out]; exact idsS_no HNE.out HOO.out)
        go_wp2_with fail
        refine HT.out.mono ?_
        rintro e w1 ⟨rfl, r1, b1⟩
        have R1 := Lib.hid r1; have B1 := Lib.hid b1; clear r1 b1
        go_wp2_with fail
        refine (HA.out _ R1.out HNE.out).mono ?_
        rintro e w2 ⟨rfl, b2, -⟩
        have B2 := Lib.hid b2; clear b2
        go_wp2_with fail
        go_ret
        exact Post.mk0 HX.out ((HBE.out.trans B1.out).trans B2.out)
      | some x =>
        have hxl := anyS_le HOO.out
        obtain ⟨q, hq⟩ : ∃ q, skB 46 (l'.dropWhile isI) = q := ⟨_, rfl⟩
        have HQ := Lib.hid hq
        rw [hq] at HSK
        clear hq
        cases q
        · have HX := Lib.hid (show idsS anyS l k = some (l'.dropWhile isI, k' ++ x) by rw [← HI.out]; exact idsS_end HNE.out HOO.out HQ.out)
          have HL := Lib.hid (show skL 46 (l'.dropWhile isI) = l'.dropWhile isI by unfold skL; rw [HQ.out]; rfl)
          go_wp2_with fail
          refine HT.out.mono ?_
          rintro e w1 ⟨rfl, r1, b1⟩
          have R1 := Lib.hid r1; have B1 := Lib.hid b1; clear r1 b1
          go_wp2_with fail
          refine (HA.out _ R1.out HNE.out).mono ?_
          rintro e w2 ⟨rfl, b2, r2⟩
          have B2 := Lib.hid b2; have R2 := Lib.hid (r2 x rfl); clear b2 r2
          go_wp2_with fail
          refine (HSK.out x _ R2.out).mono ?_
          rintro e w3 ⟨rfl, r3, b3⟩
          have R3 := Lib.hid r3; have B3 := Lib.hid b3; clear r3 b3
          go_wp2_with fail
          go_ret
          exact Post.mk1 HX.out (((HBE.out.trans B1.out).trans B2.out).trans B3.out) (by have := R3.out; rwa [HL.out] at this)
        · have HX := Lib.hid (show idsS anyS ((l'.dropWhile isI).drop 1) (k' ++ x) = idsS anyS l k by rw [← HI.out]; exact (idsS_on HNE.out HOO.out HQ.out).symm)
          have HL := Lib.hid (show skL 46 (l'.dropWhile isI) = (l'.dropWhile isI).drop 1 by unfold skL; rw [HQ.out]; rfl)
          have hpos2 := skB_len HQ.out
          go_wp2_with fail
          refine HT.out.mono ?_
          rintro e w1 ⟨rfl, r1, b1⟩
          have R1 := Lib.hid r1; have B1 := Lib.hid b1; clear r1 b1
          go_wp2_with fail
          refine (HA.out _ R1.out HNE.out).mono ?_
          rintro e w2 ⟨rfl, b2, r2⟩
          have B2 := Lib.hid b2; have R2 := Lib.hid (r2 x rfl); clear b2 r2
          go_wp2_with fail
          refine (HSK.out x _ R2.out).mono ?_
          rintro e w3 ⟨rfl, r3, b3⟩
          have R3 := Lib.hid r3; have B3 := Lib.hid b3; clear r3 b3
          go_wp2_with fail
          go_roundg ((l'.dropWhile isI).drop 1).length
          case rel => exact ⟨(l'.dropWhile isI).drop 1, k' ++ x, rfl, by rw [List.length_drop]; omega, by rw [List.length_drop, List.length_append]; omega, HX.out, by have := R3.out; rwa [HL.out] at this, ((HBE.out.trans B1.out).trans B2.out).trans B3.out⟩
          case measure => rw [List.length_drop]; omega
end Go.Proofs.YtceeilojcifgeaaGreatDoor
