/-
  Versions: the walks of prerelease, build and semver (conditions: at most 64 bytes to be read).
-/
import Derived.Test.YtceeilojcifgeaaGreatDoorVerJ
namespace Go.Proofs.YtceeilojcifgeaaGreatDoor
open Go.RowKit

def preS (l k : BL) : Option (BL × BL) := if skB 45 l = true then idsS identS (l.drop 1) k else some (l, k ++ [2])
def bldS (l k : BL) : Option (BL × BL) := if skB 43 l = true then idsS anyS (l.drop 1) k else some (l, k)
theorem skL_yes {c : UInt8} {l : BL} (h : skB c l = true) : skL c l = l.drop 1 := if_pos h
theorem skL_no {c : UInt8} {l : BL} (h : skB c l = false) : skL c l = l := by unfold skL; rw [h]; rfl
set_option maxRecDepth 100000 in
set_option maxHeartbeats 1000000 in
theorem prerelease_any (B b : Nat) (l k : BL) (w : World) (h : Rd B w b (bs l) k) (hl : l.length ≤ 64) (hk : k.length + 4 * l.length ≤ 900) :
    Calls Tryz.prog 56 #[.pointer (some ⟨b, 0, none⟩)] w (Post B b w (preS l k)) := by
  have HS := Lib.hid (skip_any B b 45 l k w h (by omega))
  have HM := Lib.hid (fun w h => mark_any B b 2 (bs l) k w h (by omega))
  have HI := Lib.hid (fun w h (hp : 0 < l.length) => identifiers_ident B b (l.drop 1) k w h (by rw [List.length_drop]; omega) (by rw [List.length_drop]; omega))
  have HL1 := Lib.hid (@skL_yes 45 l)
  have HL0 := Lib.hid (@skL_no 45 l)
  have HLE := Lib.hid (@skB_len 45 l)
  have HX := Lib.hid (show preS l k = if skB 45 l = true then idsS identS (l.drop 1) k else some (l, k ++ [2]) from rfl)
  clear h
  generalize skB 45 l = q at *
  cases q
  · have HLX := Lib.hid (HL0.out rfl)
    have HY := Lib.hid (show preS l k = some (l, k ++ [2]) from HX.out)
    go_enter Tryz.func56, Tryz.ntmps56
    go_wp2_with fail
    refine HS.out.mono ?_
    rintro e w1 ⟨rfl, r1, b1⟩
    rw [HLX.out] at r1
    have R1 := Lib.hid r1; have B1 := Lib.hid b1; clear r1 b1
    go_wp2_with fail
    refine (HM.out _ R1.out).mono ?_
    rintro e w2 ⟨rfl, r2, b2⟩
    have R2 := Lib.hid r2; have B2 := Lib.hid b2; clear r2 b2
    go_wp2_with fail
    go_ret
    exact Post.mk1 HY.out (B1.out.trans B2.out) R2.out
  · have HY := Lib.hid (show preS l k = idsS identS (l.drop 1) k from HX.out)
    rw [HY.out]
    have HI2 := Lib.hid (fun w h => HI.out w h (HLE.out rfl))
    have HLX := Lib.hid (HL1.out rfl)
    obtain ⟨o, ho⟩ : ∃ o, idsS identS (l.drop 1) k = o := ⟨_, rfl⟩
    rw [ho] at HI2 ⊢
    clear ho HX HY
    go_enter Tryz.func56, Tryz.ntmps56
    go_wp2_with fail
    refine HS.out.mono ?_
    rintro e w1 ⟨rfl, r1, b1⟩
    rw [HLX.out] at r1
    have R1 := Lib.hid r1; have B1 := Lib.hid b1; clear r1 b1
    go_wp2_with fail
    refine (HI2.out _ R1.out).mono ?_
    rintro e w2 ⟨rfl, b2, r2⟩
    have R2 := Lib.hid r2; have B2 := Lib.hid b2; clear r2 b2
    go_wp2_with fail
    go_ret
    exact ⟨rfl, B1.out.trans B2.out, R2.out⟩
set_option maxRecDepth 100000 in
set_option maxHeartbeats 1000000 in
theorem build_any (B b : Nat) (l k : BL) (w : World) (h : Rd B w b (bs l) k) (hl : l.length ≤ 64) (hk : k.length + 4 * l.length ≤ 901) :
    Calls Tryz.prog 57 #[.pointer (some ⟨b, 0, none⟩)] w (Post B b w (bldS l k)) := by
  have HS := Lib.hid (skip_any B b 43 l k w h (by omega))
  have HI := Lib.hid (fun w h (hp : 0 < l.length) => identifiers_build B b (l.drop 1) k w h (by rw [List.length_drop]; omega) (by rw [List.length_drop]; omega))
  have HL1 := Lib.hid (@skL_yes 43 l)
  have HL0 := Lib.hid (@skL_no 43 l)
  have HLE := Lib.hid (@skB_len 43 l)
  have HX := Lib.hid (show bldS l k = if skB 43 l = true then idsS anyS (l.drop 1) k else some (l, k) from rfl)
  clear h
  generalize skB 43 l = q at *
  cases q
  · have HLX := Lib.hid (HL0.out rfl)
    have HY := Lib.hid (show bldS l k = some (l, k) from HX.out)
    go_enter Tryz.func57, Tryz.ntmps57
    go_wp2_with fail
    refine HS.out.mono ?_
    rintro e w1 ⟨rfl, r1, b1⟩
    rw [HLX.out] at r1
    have R1 := Lib.hid r1; have B1 := Lib.hid b1; clear r1 b1
    go_wp2_with fail
    go_ret
    exact Post.mk1 HY.out B1.out R1.out
  · have HY := Lib.hid (show bldS l k = idsS anyS (l.drop 1) k from HX.out)
    rw [HY.out]
    have HI2 := Lib.hid (fun w h => HI.out w h (HLE.out rfl))
    have HLX := Lib.hid (HL1.out rfl)
    obtain ⟨o, ho⟩ : ∃ o, idsS anyS (l.drop 1) k = o := ⟨_, rfl⟩
    rw [ho] at HI2 ⊢
    clear ho HX HY
    go_enter Tryz.func57, Tryz.ntmps57
    go_wp2_with fail
    refine HS.out.mono ?_
    rintro e w1 ⟨rfl, r1, b1⟩
    rw [HLX.out] at r1
    have R1 := Lib.hid r1; have B1 := Lib.hid b1; clear r1 b1
    go_wp2_with fail
    refine (HI2.out _ R1.out).mono ?_
    rintro e w2 ⟨rfl, b2, r2⟩
    have R2 := Lib.hid r2; have B2 := Lib.hid b2; clear r2 b2
    go_wp2_with fail
    go_ret
    exact ⟨rfl, B1.out.trans B2.out, R2.out⟩
theorem skip_post (B b : Nat) (c : UInt8) (l k : BL) (w : World) (h : Rd B w b (bs l) k) (hl : l.length ≤ 100000) :
    Calls Tryz.prog 55 #[.pointer (some ⟨b, 0, none⟩), .int .u8 c.toNat] w (Post B b w (skS c l k)) := by
  refine (skip_any B b c l k w h hl).mono ?_
  rintro e w1 ⟨rfl, r1, b1⟩
  unfold skS
  cases hq : skB c l
  · exact Post.mk0 rfl b1
  · rw [skL_yes hq] at r1
    exact Post.mk1 rfl b1 r1
theorem pnumS_le {l k : BL} {p : BL × BL} (h : pnumS l k = some p) : p.1.length ≤ l.length ∧ p.2.length + 4 * p.1.length ≤ k.length + 4 * l.length := by
  unfold pnumS at h
  split at h
  · rename_i hp
    injection h with h; subst h
    have h1 := num_length (l.takeWhile isD); have h2 := tw_len isD l
    have h3 : 1 ≤ (l.takeWhile isD).length := by
      rcases Nat.eq_zero_or_pos (l.takeWhile isD).length with h | h
      · rw [List.eq_nil_of_length_eq_zero h] at hp; cases hp
      · exact h
    simp only [List.length_append]; omega
  · cases h
theorem skS_le {c : UInt8} {l k : BL} {p : BL × BL} (h : skS c l k = some p) : p.1.length ≤ l.length ∧ p.2.length + 4 * p.1.length ≤ k.length + 4 * l.length := by
  unfold skS at h
  split at h
  · injection h with h; subst h; simp only [List.length_drop]; omega
  · cases h
theorem idsS_le {f : BL → Option BL} (hf : ∀ w x, f w = some x → x.length ≤ w.length + 2) : ∀ (n : Nat) (l k : BL) (p : BL × BL), l.length ≤ n → idsS f l k = some p → p.1.length ≤ l.length ∧ p.2.length + 4 * p.1.length ≤ k.length + 4 * l.length := by
  intro n
  induction n with
  | zero =>
    intro l k p hn h
    have e : l = [] := List.eq_nil_of_length_eq_zero (by omega)
    subst e; rw [idsS_none rfl] at h; cases h
  | succ n ih =>
    intro l k p hn h
    by_cases h0 : l.takeWhile isI = []
    · rw [idsS_none h0] at h; cases h
    · have t1 := tw_len isI l
      have hpos : 1 ≤ (l.takeWhile isI).length := by
        rcases Nat.eq_zero_or_pos (l.takeWhile isI).length with h | h
        · exact absurd (List.eq_nil_of_length_eq_zero h) h0
        · exact h
      cases hfo : f (l.takeWhile isI) with
      | none => rw [idsS_no h0 hfo] at h; cases h
      | some x =>
        have := hf _ _ hfo
        cases hs : skB 46 (l.dropWhile isI)
        · rw [idsS_end h0 hfo hs] at h; injection h with h; subst h; simp only [List.length_append]; omega
        · have hp2 := skB_len hs
          rw [idsS_on h0 hfo hs] at h
          have := ih _ _ p (by rw [List.length_drop]; omega) h
          simp only [List.length_append, List.length_drop] at this; omega
theorem preS_le {l k : BL} {p : BL × BL} (h : preS l k = some p) : p.1.length ≤ l.length ∧ p.2.length + 4 * p.1.length ≤ k.length + 4 * l.length + 1 := by
  unfold preS at h
  split at h
  · have := idsS_le (fun w x h => identS_le h) _ _ _ p (Nat.le_refl _) h
    simp only [List.length_drop] at this; omega
  · injection h with h; subst h; simp only [List.length_append, List.length_singleton]; omega
/-- a semantic version: its key -/
def semS (l : BL) : Option BL :=
  match pnumS l [] with
  | none => none
  | some p1 => match skS 46 p1.1 p1.2 with
    | none => none
    | some p2 => match pnumS p2.1 p2.2 with
      | none => none
      | some p3 => match skS 46 p3.1 p3.2 with
        | none => none
        | some p4 => match pnumS p4.1 p4.2 with
          | none => none
          | some p5 => match preS p5.1 p5.2 with
            | none => none
            | some p6 => match bldS p6.1 p6.2 with
              | none => none
              | some p7 => if p7.1 = [] then some p7.2 else none
/-- the end of a function that reads a whole version -/
def PostK (B b : Nat) (w : World) (o : Option BL) (e : Ending) (w' : World) : Prop := e = .returned (.bool o.isSome) ∧ Below B w w' ∧ ∀ k, o = some k → ∃ r, Rd B w' b r k
theorem PostK.mk0 {B b : Nat} {w : World} {o : Option BL} {w' : World} (ho : o = none) (hb : Below B w w') : PostK B b w o (.returned (.bool false)) w' := by
  subst ho; exact ⟨rfl, hb, fun p h => by cases h⟩
theorem PostK.mk1 {B b : Nat} {w : World} {o : Option BL} {w' : World} {k : BL} {r : ByteArray} (ho : o = some k) (hb : Below B w w') (hr : Rd B w' b r k) : PostK B b w o (.returned (.bool true)) w' := by
  subst ho; exact ⟨rfl, hb, fun p h => by injection h with h; subst h; exact ⟨r, hr⟩⟩
set_option maxRecDepth 100000 in
set_option maxHeartbeats 4000000 in
theorem semver_any (B b : Nat) (l : BL) (w : World) (h : Rd B w b (bs l) []) (hl : l.length ≤ 64) :
    Calls Tryz.prog 38 #[.pointer (some ⟨b, 0, none⟩)] w (PostK B b w (semS l)) := by
  have HH := Lib.hid h
  have hk0 : ([] : BL).length + 4 * l.length ≤ 256 := by simp; omega
  have hl0 := hl
  clear h hl
  have H0 := Lib.hid (fun w (h : Rd B w b (bs l) []) => plainNumber_any B b l [] w h (by omega) (by omega))
  obtain ⟨o0, ho0⟩ : ∃ o, pnumS l [] = o := ⟨_, rfl⟩
  rw [ho0] at H0
  have HO0 := Lib.hid ho0
  rcases o0 with _ | p1
  · have HX := Lib.hid (show semS l = none by unfold semS; simp only [HO0.out])
    clear ho0
    go_enter Tryz.func38, Tryz.ntmps38
    go_wp2_with fail
    refine (H0.out _ HH.out).mono ?_
    rintro e w1 hp
    obtain ⟨rfl, b1⟩ := Post.none hp
    have B1 := Lib.hid b1; clear b1 hp
    go_wp2_with fail
    go_ret
    exact PostK.mk0 HX.out B1.out
  have ⟨hl1, hk1⟩ := pnumS_le ho0
  clear ho0
  have H1 := Lib.hid (fun w (h : Rd B w b (bs p1.1) p1.2) => skip_post B b 46 p1.1 p1.2 w h (by omega))
  obtain ⟨o1, ho1⟩ : ∃ o, skS 46 p1.1 p1.2 = o := ⟨_, rfl⟩
  rw [ho1] at H1
  have HO1 := Lib.hid ho1
  rcases o1 with _ | p2
  · have HX := Lib.hid (show semS l = none by unfold semS; simp only [HO0.out, HO1.out])
    clear ho1
    go_enter Tryz.func38, Tryz.ntmps38
    go_wp2_with fail
    refine (H0.out _ HH.out).mono ?_
    rintro e w1 hp
    obtain ⟨rfl, b1, r1⟩ := Post.some hp
    have B1 := Lib.hid b1; have R1 := Lib.hid r1; clear b1 r1 hp
    go_wp2_with fail
    refine (H1.out _ R1.out).mono ?_
    rintro e w2 hp
    obtain ⟨rfl, b2⟩ := Post.none hp
    have B2 := Lib.hid b2; clear b2 hp
    go_wp2_with fail
    go_ret
    exact PostK.mk0 HX.out (B1.out.trans B2.out)
  have ⟨hl2, hk2⟩ := skS_le ho1
  clear ho1
  have H2 := Lib.hid (fun w (h : Rd B w b (bs p2.1) p2.2) => plainNumber_any B b p2.1 p2.2 w h (by omega) (by omega))
  obtain ⟨o2, ho2⟩ : ∃ o, pnumS p2.1 p2.2 = o := ⟨_, rfl⟩
  rw [ho2] at H2
  have HO2 := Lib.hid ho2
  rcases o2 with _ | p3
  · have HX := Lib.hid (show semS l = none by unfold semS; simp only [HO0.out, HO1.out, HO2.out])
    clear ho2
    go_enter Tryz.func38, Tryz.ntmps38
    go_wp2_with fail
    refine (H0.out _ HH.out).mono ?_
    rintro e w1 hp
    obtain ⟨rfl, b1, r1⟩ := Post.some hp
    have B1 := Lib.hid b1; have R1 := Lib.hid r1; clear b1 r1 hp
    go_wp2_with fail
    refine (H1.out _ R1.out).mono ?_
    rintro e w2 hp
    obtain ⟨rfl, b2, r2⟩ := Post.some hp
    have B2 := Lib.hid b2; have R2 := Lib.hid r2; clear b2 r2 hp
    go_wp2_with fail
    refine (H2.out _ R2.out).mono ?_
    rintro e w3 hp
    obtain ⟨rfl, b3⟩ := Post.none hp
    have B3 := Lib.hid b3; clear b3 hp
    go_wp2_with fail
    go_ret
    exact PostK.mk0 HX.out ((B1.out.trans B2.out).trans B3.out)
  have ⟨hl3, hk3⟩ := pnumS_le ho2
  clear ho2
  have H3 := Lib.hid (fun w (h : Rd B w b (bs p3.1) p3.2) => skip_post B b 46 p3.1 p3.2 w h (by omega))
  obtain ⟨o3, ho3⟩ : ∃ o, skS 46 p3.1 p3.2 = o := ⟨_, rfl⟩
  rw [ho3] at H3
  have HO3 := Lib.hid ho3
  rcases o3 with _ | p4
  · have HX := Lib.hid (show semS l = none by unfold semS; simp only [HO0.out, HO1.out, HO2.out, HO3.out])
    clear ho3
    go_enter Tryz.func38, Tryz.ntmps38
    go_wp2_with fail
    refine (H0.out _ HH.out).mono ?_
    rintro e w1 hp
    obtain ⟨rfl, b1, r1⟩ := Post.some hp
    have B1 := Lib.hid b1; have R1 := Lib.hid r1; clear b1 r1 hp
    go_wp2_with fail
    refine (H1.out _ R1.out).mono ?_
    rintro e w2 hp
    obtain ⟨rfl, b2, r2⟩ := Post.some hp
    have B2 := Lib.hid b2; have R2 := Lib.hid r2; clear b2 r2 hp
    go_wp2_with fail
    refine (H2.out _ R2.out).mono ?_
    rintro e w3 hp
    obtain ⟨rfl, b3, r3⟩ := Post.some hp
    have B3 := Lib.hid b3; have R3 := Lib.hid r3; clear b3 r3 hp
    go_wp2_with fail
    refine (H3.out _ R3.out).mono ?_
    rintro e w4 hp
    obtain ⟨rfl, b4⟩ := Post.none hp
    have B4 := Lib.hid b4; clear b4 hp
    go_wp2_with fail
    go_ret
    exact PostK.mk0 HX.out (((B1.out.trans B2.out).trans B3.out).trans B4.out)
  have ⟨hl4, hk4⟩ := skS_le ho3
  clear ho3
  have H4 := Lib.hid (fun w (h : Rd B w b (bs p4.1) p4.2) => plainNumber_any B b p4.1 p4.2 w h (by omega) (by omega))
  obtain ⟨o4, ho4⟩ : ∃ o, pnumS p4.1 p4.2 = o := ⟨_, rfl⟩
  rw [ho4] at H4
  have HO4 := Lib.hid ho4
  rcases o4 with _ | p5
  · have HX := Lib.hid (show semS l = none by unfold semS; simp only [HO0.out, HO1.out, HO2.out, HO3.out, HO4.out])
    clear ho4
    go_enter Tryz.func38, Tryz.ntmps38
    go_wp2_with fail
    refine (H0.out _ HH.out).mono ?_
    rintro e w1 hp
    obtain ⟨rfl, b1, r1⟩ := Post.some hp
    have B1 := Lib.hid b1; have R1 := Lib.hid r1; clear b1 r1 hp
    go_wp2_with fail
    refine (H1.out _ R1.out).mono ?_
    rintro e w2 hp
    obtain ⟨rfl, b2, r2⟩ := Post.some hp
    have B2 := Lib.hid b2; have R2 := Lib.hid r2; clear b2 r2 hp
    go_wp2_with fail
    refine (H2.out _ R2.out).mono ?_
    rintro e w3 hp
    obtain ⟨rfl, b3, r3⟩ := Post.some hp
    have B3 := Lib.hid b3; have R3 := Lib.hid r3; clear b3 r3 hp
    go_wp2_with fail
    refine (H3.out _ R3.out).mono ?_
    rintro e w4 hp
    obtain ⟨rfl, b4, r4⟩ := Post.some hp
    have B4 := Lib.hid b4; have R4 := Lib.hid r4; clear b4 r4 hp
    go_wp2_with fail
    refine (H4.out _ R4.out).mono ?_
    rintro e w5 hp
    obtain ⟨rfl, b5⟩ := Post.none hp
    have B5 := Lib.hid b5; clear b5 hp
    go_wp2_with fail
    go_ret
    exact PostK.mk0 HX.out ((((B1.out.trans B2.out).trans B3.out).trans B4.out).trans B5.out)
  have ⟨hl5, hk5⟩ := pnumS_le ho4
  clear ho4
  have H5 := Lib.hid (fun w (h : Rd B w b (bs p5.1) p5.2) => prerelease_any B b p5.1 p5.2 w h (by omega) (by omega))
  obtain ⟨o5, ho5⟩ : ∃ o, preS p5.1 p5.2 = o := ⟨_, rfl⟩
  rw [ho5] at H5
  have HO5 := Lib.hid ho5
  rcases o5 with _ | p6
  · have HX := Lib.hid (show semS l = none by unfold semS; simp only [HO0.out, HO1.out, HO2.out, HO3.out, HO4.out, HO5.out])
    clear ho5
    go_enter Tryz.func38, Tryz.ntmps38
    go_wp2_with fail
    refine (H0.out _ HH.out).mono ?_
    rintro e w1 hp
    obtain ⟨rfl, b1, r1⟩ := Post.some hp
    have B1 := Lib.hid b1; have R1 := Lib.hid r1; clear b1 r1 hp
    go_wp2_with fail
    refine (H1.out _ R1.out).mono ?_
    rintro e w2 hp
    obtain ⟨rfl, b2, r2⟩ := Post.some hp
    have B2 := Lib.hid b2; have R2 := Lib.hid r2; clear b2 r2 hp
    go_wp2_with fail
    refine (H2.out _ R2.out).mono ?_
    rintro e w3 hp
    obtain ⟨rfl, b3, r3⟩ := Post.some hp
    have B3 := Lib.hid b3; have R3 := Lib.hid r3; clear b3 r3 hp
    go_wp2_with fail
    refine (H3.out _ R3.out).mono ?_
    rintro e w4 hp
    obtain ⟨rfl, b4, r4⟩ := Post.some hp
    have B4 := Lib.hid b4; have R4 := Lib.hid r4; clear b4 r4 hp
    go_wp2_with fail
    refine (H4.out _ R4.out).mono ?_
    rintro e w5 hp
    obtain ⟨rfl, b5, r5⟩ := Post.some hp
    have B5 := Lib.hid b5; have R5 := Lib.hid r5; clear b5 r5 hp
    go_wp2_with fail
    refine (H5.out _ R5.out).mono ?_
    rintro e w6 hp
    obtain ⟨rfl, b6⟩ := Post.none hp
    have B6 := Lib.hid b6; clear b6 hp
    go_wp2_with fail
    go_ret
    exact PostK.mk0 HX.out (((((B1.out.trans B2.out).trans B3.out).trans B4.out).trans B5.out).trans B6.out)
  have ⟨hl6, hk6⟩ := preS_le ho5
  clear ho5
  have H6 := Lib.hid (fun w (h : Rd B w b (bs p6.1) p6.2) => build_any B b p6.1 p6.2 w h (by omega) (by omega))
  obtain ⟨o6, ho6⟩ : ∃ o, bldS p6.1 p6.2 = o := ⟨_, rfl⟩
  rw [ho6] at H6
  have HO6 := Lib.hid ho6
  rcases o6 with _ | p7
  · have HX := Lib.hid (show semS l = none by unfold semS; simp only [HO0.out, HO1.out, HO2.out, HO3.out, HO4.out, HO5.out, HO6.out])
    clear ho6
    go_enter Tryz.func38, Tryz.ntmps38
    go_wp2_with fail
    refine (H0.out _ HH.out).mono ?_
    rintro e w1 hp
    obtain ⟨rfl, b1, r1⟩ := Post.some hp
    have B1 := Lib.hid b1; have R1 := Lib.hid r1; clear b1 r1 hp
    go_wp2_with fail
    refine (H1.out _ R1.out).mono ?_
    rintro e w2 hp
    obtain ⟨rfl, b2, r2⟩ := Post.some hp
    have B2 := Lib.hid b2; have R2 := Lib.hid r2; clear b2 r2 hp
    go_wp2_with fail
    refine (H2.out _ R2.out).mono ?_
    rintro e w3 hp
    obtain ⟨rfl, b3, r3⟩ := Post.some hp
    have B3 := Lib.hid b3; have R3 := Lib.hid r3; clear b3 r3 hp
    go_wp2_with fail
    refine (H3.out _ R3.out).mono ?_
    rintro e w4 hp
    obtain ⟨rfl, b4, r4⟩ := Post.some hp
    have B4 := Lib.hid b4; have R4 := Lib.hid r4; clear b4 r4 hp
    go_wp2_with fail
    refine (H4.out _ R4.out).mono ?_
    rintro e w5 hp
    obtain ⟨rfl, b5, r5⟩ := Post.some hp
    have B5 := Lib.hid b5; have R5 := Lib.hid r5; clear b5 r5 hp
    go_wp2_with fail
    refine (H5.out _ R5.out).mono ?_
    rintro e w6 hp
    obtain ⟨rfl, b6, r6⟩ := Post.some hp
    have B6 := Lib.hid b6; have R6 := Lib.hid r6; clear b6 r6 hp
    go_wp2_with fail
    refine (H6.out _ R6.out).mono ?_
    rintro e w7 hp
    obtain ⟨rfl, b7⟩ := Post.none hp
    have B7 := Lib.hid b7; clear b7 hp
    go_wp2_with fail
    go_ret
    exact PostK.mk0 HX.out ((((((B1.out.trans B2.out).trans B3.out).trans B4.out).trans B5.out).trans B6.out).trans B7.out)
  clear ho6
  have hE : ((bs p7.1).toList == []) = (p7.1 == []) := by rw [Lib.toList_data, bs_data]
  by_cases h0 : p7.1 = []
  · have hE2 : ((bs p7.1).toList == []) = true := by rw [hE, h0]; rfl
    have HX := Lib.hid (show semS l = some p7.2 by unfold semS; simp only [HO0.out, HO1.out, HO2.out, HO3.out, HO4.out, HO5.out, HO6.out, h0, if_true])
    clear hE h0
    go_enter Tryz.func38, Tryz.ntmps38
    go_wp2_with fail
    refine (H0.out _ HH.out).mono ?_
    rintro e w1 hp
    obtain ⟨rfl, b1, r1⟩ := Post.some hp
    have B1 := Lib.hid b1; have R1 := Lib.hid r1; clear b1 r1 hp
    go_wp2_with fail
    refine (H1.out _ R1.out).mono ?_
    rintro e w2 hp
    obtain ⟨rfl, b2, r2⟩ := Post.some hp
    have B2 := Lib.hid b2; have R2 := Lib.hid r2; clear b2 r2 hp
    go_wp2_with fail
    refine (H2.out _ R2.out).mono ?_
    rintro e w3 hp
    obtain ⟨rfl, b3, r3⟩ := Post.some hp
    have B3 := Lib.hid b3; have R3 := Lib.hid r3; clear b3 r3 hp
    go_wp2_with fail
    refine (H3.out _ R3.out).mono ?_
    rintro e w4 hp
    obtain ⟨rfl, b4, r4⟩ := Post.some hp
    have B4 := Lib.hid b4; have R4 := Lib.hid r4; clear b4 r4 hp
    go_wp2_with fail
    refine (H4.out _ R4.out).mono ?_
    rintro e w5 hp
    obtain ⟨rfl, b5, r5⟩ := Post.some hp
    have B5 := Lib.hid b5; have R5 := Lib.hid r5; clear b5 r5 hp
    go_wp2_with fail
    refine (H5.out _ R5.out).mono ?_
    rintro e w6 hp
    obtain ⟨rfl, b6, r6⟩ := Post.some hp
    have B6 := Lib.hid b6; have R6 := Lib.hid r6; clear b6 r6 hp
    go_wp2_with fail
    refine (H6.out _ R6.out).mono ?_
    rintro e w7 hp
    obtain ⟨rfl, b7, r7⟩ := Post.some hp
    have B7 := Lib.hid b7; have R7 := Lib.hid r7; clear b7 r7 hp
    have h07 := R7.out.rest
    go_wp2_with fail
    go_ret
    exact PostK.mk1 HX.out ((((((B1.out.trans B2.out).trans B3.out).trans B4.out).trans B5.out).trans B6.out).trans B7.out) R7.out
  · have hE2 : ((bs p7.1).toList == []) = false := by rw [hE]; exact beq_eq_false_iff_ne.2 h0
    have HX := Lib.hid (show semS l = none by unfold semS; simp only [HO0.out, HO1.out, HO2.out, HO3.out, HO4.out, HO5.out, HO6.out, h0, if_false])
    clear hE h0
    go_enter Tryz.func38, Tryz.ntmps38
    go_wp2_with fail
    refine (H0.out _ HH.out).mono ?_
    rintro e w1 hp
    obtain ⟨rfl, b1, r1⟩ := Post.some hp
    have B1 := Lib.hid b1; have R1 := Lib.hid r1; clear b1 r1 hp
    go_wp2_with fail
    refine (H1.out _ R1.out).mono ?_
    rintro e w2 hp
    obtain ⟨rfl, b2, r2⟩ := Post.some hp
    have B2 := Lib.hid b2; have R2 := Lib.hid r2; clear b2 r2 hp
    go_wp2_with fail
    refine (H2.out _ R2.out).mono ?_
    rintro e w3 hp
    obtain ⟨rfl, b3, r3⟩ := Post.some hp
    have B3 := Lib.hid b3; have R3 := Lib.hid r3; clear b3 r3 hp
    go_wp2_with fail
    refine (H3.out _ R3.out).mono ?_
    rintro e w4 hp
    obtain ⟨rfl, b4, r4⟩ := Post.some hp
    have B4 := Lib.hid b4; have R4 := Lib.hid r4; clear b4 r4 hp
    go_wp2_with fail
    refine (H4.out _ R4.out).mono ?_
    rintro e w5 hp
    obtain ⟨rfl, b5, r5⟩ := Post.some hp
    have B5 := Lib.hid b5; have R5 := Lib.hid r5; clear b5 r5 hp
    go_wp2_with fail
    refine (H5.out _ R5.out).mono ?_
    rintro e w6 hp
    obtain ⟨rfl, b6, r6⟩ := Post.some hp
    have B6 := Lib.hid b6; have R6 := Lib.hid r6; clear b6 r6 hp
    go_wp2_with fail
    refine (H6.out _ R6.out).mono ?_
    rintro e w7 hp
    obtain ⟨rfl, b7, r7⟩ := Post.some hp
    have B7 := Lib.hid b7; have R7 := Lib.hid r7; clear b7 r7 hp
    have h07 := R7.out.rest
    go_wp2_with fail
    go_ret
    exact PostK.mk0 HX.out ((((((B1.out.trans B2.out).trans B3.out).trans B4.out).trans B5.out).trans B6.out).trans B7.out)
end Go.Proofs.YtceeilojcifgeaaGreatDoor
