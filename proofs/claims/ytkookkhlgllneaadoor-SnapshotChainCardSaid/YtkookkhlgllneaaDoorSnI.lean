/-
  The walks of Compose, Invert, Diff and Apply of package snapshot (conditions: digests of 32 bytes, at most 100000 elements).
-/
import Derived.Test.YtkookkhlgllneaaDoorSnH
namespace Go.Proofs.YtkookkhlgllneaaDoor
open Go.RowKit

/-- what a call that makes changes, entries answers -/
def ResC (w : World) (r : Except Int (List Cg)) (e : Ending) (w' : World) : Prop := match r with
  | .error k => e = .returned (.tuple #[.slice none 0 0, .int .i64 k]) ∧ Below w.heap.size w w'
  | .ok l => ∃ sp cap, e = .returned (.tuple #[.slice sp l.length cap, .int .i64 0]) ∧ OwnC w' w.heap.size (.slice sp l.length cap) l ∧ Below w.heap.size w w'
def ResE (w : World) (r : Except Int (List En)) (e : Ending) (w' : World) : Prop := match r with
  | .error k => e = .returned (.tuple #[.slice none 0 0, .int .i64 k]) ∧ Below w.heap.size w w'
  | .ok l => ∃ sp cap, e = .returned (.tuple #[.slice sp l.length cap, .int .i64 0]) ∧ OwnE w' w.heap.size (.slice sp l.length cap) l ∧ Below w.heap.size w w'
def finC : Option (List Cg) → Except Int (List Cg)
  | none => .error 9
  | some l => if 128 < l.length then .error 3 else .ok l
def finA : Option (List Cg) → Except Int (List En)
  | none => .error 9
  | some m => if m.any needB then .error 9 else if 64 < m.length then .error 3 else .ok (m.map toE)
theorem finA_some (m : List Cg) : finA (some m) = if m.any needB then .error 9 else if 64 < m.length then .error 3 else .ok (m.map toE) := rfl
def sCompose (a b : List Cg) : Except Int (List Cg) := if vldC a && vldC b then finC (fol a b) else .error 1
def sInvert (l : List Cg) : Except Int (List Cg) := if vldC l then .ok (inv l) else .error 1
def sDiff (a b : List En) : Except Int (List Cg) := if vldE a && vldE b then .ok (cdif a b) else .error 1
def sApply (s : List En) (l : List Cg) : Except Int (List En) := if vldE s && vldC l then finA (fol (cre s) l) else .error 1
theorem resC_error {w w' : World} {r : Except Int (List Cg)} {k : Int} {e : Ending} (h : r = .error k) (he : e = .returned (.tuple #[.slice none 0 0, .int .i64 k])) (hb : Below w.heap.size w w') : ResC w r e w' := by subst h; exact ⟨he, hb⟩
theorem resC_ok {w w' : World} {r : Except Int (List Cg)} {l : List Cg} {e : Ending} {sp : Option Addr} {n cap : Nat} (h : r = .ok l) (hn : n = l.length) (he : e = .returned (.tuple #[.slice sp n cap, .int .i64 0])) (ho : OwnC w' w.heap.size (.slice sp n cap) l) (hb : Below w.heap.size w w') : ResC w r e w' := by subst h; subst hn; exact ⟨sp, cap, he, ho, hb⟩
theorem resE_error {w w' : World} {r : Except Int (List En)} {k : Int} {e : Ending} (h : r = .error k) (he : e = .returned (.tuple #[.slice none 0 0, .int .i64 k])) (hb : Below w.heap.size w w') : ResE w r e w' := by subst h; exact ⟨he, hb⟩
theorem resE_ok {w w' : World} {r : Except Int (List En)} {l : List En} {e : Ending} {sp : Option Addr} {n cap : Nat} (h : r = .ok l) (hn : n = l.length) (he : e = .returned (.tuple #[.slice sp n cap, .int .i64 0])) (ho : OwnE w' w.heap.size (.slice sp n cap) l) (hb : Below w.heap.size w w') : ResE w r e w' := by subst h; subst hn; exact ⟨sp, cap, he, ho, hb⟩
theorem OwnC.base {w : World} {b b' : Nat} {v : Value} {l : List Cg} (h : OwnC w b v l) (hb : b' ≤ b) : OwnC w b' v l := by
  refine ⟨?_, h.2⟩
  obtain ⟨hl, h1 | ⟨g, cap, cur, e, hbg, rest⟩⟩ := h.1
  · exact ⟨hl, .inl h1⟩
  · exact ⟨hl, .inr ⟨g, cap, cur, e, Nat.le_trans hb hbg, rest⟩⟩
theorem OwnE.base {w : World} {b b' : Nat} {v : Value} {l : List En} (h : OwnE w b v l) (hb : b' ≤ b) : OwnE w b' v l := by
  refine ⟨?_, h.2⟩
  obtain ⟨hl, h1 | ⟨g, cap, cur, e, hbg, rest⟩⟩ := h.1
  · exact ⟨hl, .inl h1⟩
  · exact ⟨hl, .inr ⟨g, cap, cur, e, Nat.le_trans hb hbg, rest⟩⟩
theorem CgsIn.up {w w' : World} {B : Nat} {sp : Option Addr} {n cap : Nat} {l : List Cg} (h : CgsIn w B sp n cap l) (hb : Below B w w') (hs : B ≤ w.heap.size) : CgsIn w' w'.heap.size sp n cap l :=
  (h.below hb (Nat.le_refl _)).below (Below.refl w'.heap.size w') (Nat.le_trans hs hb.size)
theorem EnsIn.up {w w' : World} {B : Nat} {sp : Option Addr} {n cap : Nat} {l : List En} (h : EnsIn w B sp n cap l) (hb : Below B w w') (hs : B ≤ w.heap.size) : EnsIn w' w'.heap.size sp n cap l :=
  (h.below hb (Nat.le_refl _)).below (Below.refl w'.heap.size w') (Nat.le_trans hs hb.size)

set_option maxHeartbeats 400000 in
theorem Invert_any (sp : Option Addr) (n cap : Nat) (l : List Cg) (w : World) (hl : CgsIn w w.heap.size sp n cap l) (hn : n ≤ 100000) :
    Calls Tryd.prog 24 #[.slice sp n cap] w (ResC w (sInvert l)) := by
  have HL := Lib.hid hl; clear hl
  obtain ⟨c, hc⟩ : ∃ c, vldC l = c := ⟨_, rfl⟩
  have hv := fun w' (h : CgsIn w' w'.heap.size sp n cap l) => validChanges_any sp n cap l w' h (by omega)
  rw [hc] at hv
  have HV := Lib.hid hv; have HC := Lib.hid hc; clear hv hc
  have HLEN := Lib.hid HL.out.len
  cases c
  · go_enter Tryd.func24, Tryd.ntmps24
    go_wp2_with fail
    refine (HV.out _ HL.out).mono ?_
    rintro e w1 ⟨rfl, hb1⟩
    have HB1 := Lib.hid hb1; clear hb1
    go_wp2_with fail
    go_ret2
    exact resC_error (by unfold sInvert; rw [HC.out]; rfl) rfl HB1.out
  · go_enter Tryd.func24, Tryd.ntmps24
    go_wp2_with fail
    refine (HV.out _ HL.out).mono ?_
    rintro e w1 ⟨rfl, hb1⟩
    have HB1 := Lib.hid hb1; clear hb1
    go_wp2_with fail
    refine (inverse_any sp n cap l _ (HL.out.up HB1.out (Nat.le_refl _)) (by omega)).mono ?_
    rintro e w2 ⟨sp2, cap2, rfl, ho2, hb2⟩
    have HO2 := Lib.hid ho2; have HB2 := Lib.hid hb2; clear ho2 hb2
    go_wp2_with fail
    go_ret2
    exact resC_ok (l := inv l) (by unfold sInvert; rw [HC.out]; rfl) (by rw [← HLEN.out]; simp [inv]) rfl (HO2.out.base HB1.out.size) (HB1.out.trans (HB2.out.mono HB1.out.size))

set_option maxHeartbeats 400000 in
theorem Compose_any (spa : Option Addr) (na ca : Nat) (a : List Cg) (spb : Option Addr) (nb cb : Nat) (b : List Cg) (w : World) (ha : CgsIn w w.heap.size spa na ca a) (hb : CgsIn w w.heap.size spb nb cb b) (hna : na ≤ 100000) (hnb : nb ≤ 100000) :
    Calls Tryd.prog 26 #[.slice spa na ca, .slice spb nb cb] w (ResC w (sCompose a b)) := by
  have HA := Lib.hid ha; have HBb := Lib.hid hb; clear ha hb
  obtain ⟨c1, hc1⟩ : ∃ c, vldC a = c := ⟨_, rfl⟩
  obtain ⟨c2, hc2⟩ : ∃ c, vldC b = c := ⟨_, rfl⟩
  have hv1 := fun w' (h : CgsIn w' w'.heap.size spa na ca a) => validChanges_any spa na ca a w' h (by omega)
  have hv2 := fun w' (h : CgsIn w' w'.heap.size spb nb cb b) => validChanges_any spb nb cb b w' h (by omega)
  rw [hc1] at hv1; rw [hc2] at hv2
  have HV1 := Lib.hid hv1; have HV2 := Lib.hid hv2; have HC1 := Lib.hid hc1; have HC2 := Lib.hid hc2
  clear hv1 hv2 hc1 hc2
  cases c1
  · go_enter Tryd.func26, Tryd.ntmps26
    go_wp2_with fail
    refine (HV1.out _ HA.out).mono ?_
    rintro e w1 ⟨rfl, hb1⟩
    have HB1 := Lib.hid hb1; clear hb1
    go_wp2_with fail
    go_ret2
    exact resC_error (by unfold sCompose; rw [HC1.out]; rfl) rfl HB1.out
  cases c2
  · go_enter Tryd.func26, Tryd.ntmps26
    go_wp2_with fail
    refine (HV1.out _ HA.out).mono ?_
    rintro e w1 ⟨rfl, hb1⟩
    have HB1 := Lib.hid hb1; clear hb1
    go_wp2_with fail
    refine (HV2.out _ (HBb.out.up HB1.out (Nat.le_refl _))).mono ?_
    rintro e w2 ⟨rfl, hb2⟩
    have HB2 := Lib.hid (HB1.out.trans (hb2.mono HB1.out.size)); clear hb2
    go_wp2_with fail
    go_ret2
    exact resC_error (by unfold sCompose; rw [HC1.out, HC2.out]; rfl) rfl HB2.out
  obtain ⟨r, hr⟩ : ∃ r, fol a b = r := ⟨_, rfl⟩
  have hf := fun w' (h1 : CgsIn w' w'.heap.size spa na ca a) (h2 : CgsIn w' w'.heap.size spb nb cb b) => follow_any spa na ca a spb nb cb b w' (by omega) (by omega) h1 h2
  rw [hr] at hf
  have HF := Lib.hid hf; have HR := Lib.hid hr; clear hf hr
  have HS : Hid (sCompose a b = finC r) := by show _ = _; unfold sCompose; rw [HC1.out, HC2.out, HR.out]; rfl
  go_enter Tryd.func26, Tryd.ntmps26
  go_wp2_with fail
  refine (HV1.out _ HA.out).mono ?_
  rintro e w1 ⟨rfl, hb1⟩
  have HB1 := Lib.hid hb1; clear hb1
  go_wp2_with fail
  refine (HV2.out _ (HBb.out.up HB1.out (Nat.le_refl _))).mono ?_
  rintro e w2 ⟨rfl, hb2⟩
  have HB2 := Lib.hid (HB1.out.trans (hb2.mono HB1.out.size)); clear hb2
  go_wp2_with fail
  refine (HF.out _ (HA.out.up HB2.out (Nat.le_refl _)) (HBb.out.up HB2.out (Nat.le_refl _))).mono ?_
  rintro e w3 hres
  cases r with
  | none =>
    obtain ⟨rfl, hb3⟩ := hres
    have HB3 := Lib.hid (HB2.out.trans (hb3.mono HB2.out.size)); clear hb3
    go_wp2_with fail
    go_ret2
    exact resC_error HS.out rfl HB3.out
  | some l =>
    obtain ⟨sp3, cap3, rfl, ho3, hb3⟩ := hres
    have HO3 := Lib.hid (ho3.base HB2.out.size)
    have HB3 := Lib.hid (HB2.out.trans (hb3.mono HB2.out.size)); clear hb3 ho3
    by_cases h128 : 128 < l.length
    · have hd : decide ((l.length : Int) > 128) = true := by simp; omega
      have HS2 : Hid (sCompose a b = .error 3) := by show _ = _; rw [HS.out]; exact if_pos h128
      clear h128
      go_wp2_with fail
      go_ret2
      exact resC_error HS2.out rfl HB3.out
    · have hd : decide ((l.length : Int) > 128) = false := by simp; omega
      have HS2 : Hid (sCompose a b = .ok l) := by show _ = _; rw [HS.out]; exact if_neg h128
      clear h128
      go_wp2_with fail
      go_ret2
      exact resC_ok HS2.out rfl rfl HO3.out HB3.out

set_option maxHeartbeats 400000 in
theorem Diff_any (spa : Option Addr) (na ca : Nat) (a : List En) (spb : Option Addr) (nb cb : Nat) (b : List En) (w : World) (ha : EnsIn w w.heap.size spa na ca a) (hb : EnsIn w w.heap.size spb nb cb b) (hna : na ≤ 100000) (hnb : nb ≤ 100000) :
    Calls Tryd.prog 22 #[.slice spa na ca, .slice spb nb cb] w (ResC w (sDiff a b)) := by
  have HA := Lib.hid ha; have HBb := Lib.hid hb; clear ha hb
  obtain ⟨c1, hc1⟩ : ∃ c, vldE a = c := ⟨_, rfl⟩
  obtain ⟨c2, hc2⟩ : ∃ c, vldE b = c := ⟨_, rfl⟩
  have hv1 := fun w' (h : EnsIn w' w'.heap.size spa na ca a) => Valid_any spa na ca a w' h (by omega)
  have hv2 := fun w' (h : EnsIn w' w'.heap.size spb nb cb b) => Valid_any spb nb cb b w' h (by omega)
  rw [hc1] at hv1; rw [hc2] at hv2
  have HV1 := Lib.hid hv1; have HV2 := Lib.hid hv2; have HC1 := Lib.hid hc1; have HC2 := Lib.hid hc2
  clear hv1 hv2 hc1 hc2
  cases c1
  · go_enter Tryd.func22, Tryd.ntmps22
    go_wp2_with fail
    refine (HV1.out _ HA.out).mono ?_
    rintro e w1 ⟨rfl, hb1⟩
    have HB1 := Lib.hid hb1; clear hb1
    go_wp2_with fail
    go_ret2
    exact resC_error (by unfold sDiff; rw [HC1.out]; rfl) rfl HB1.out
  cases c2
  · go_enter Tryd.func22, Tryd.ntmps22
    go_wp2_with fail
    refine (HV1.out _ HA.out).mono ?_
    rintro e w1 ⟨rfl, hb1⟩
    have HB1 := Lib.hid hb1; clear hb1
    go_wp2_with fail
    refine (HV2.out _ (HBb.out.up HB1.out (Nat.le_refl _))).mono ?_
    rintro e w2 ⟨rfl, hb2⟩
    have HB2 := Lib.hid (HB1.out.trans (hb2.mono HB1.out.size)); clear hb2
    go_wp2_with fail
    go_ret2
    exact resC_error (by unfold sDiff; rw [HC1.out, HC2.out]; rfl) rfl HB2.out
  have HSA : Hid (Srt En.p a) := by have h := HC1.out; unfold vldE at h; simp at h; exact (ascB_iff a).1 h.2
  have HSB : Hid (Srt En.p b) := by have h := HC2.out; unfold vldE at h; simp at h; exact (ascB_iff b).1 h.2
  have hlen1 : (inv (cre a)).length = na := by rw [← HA.out.len]; simp [inv, cre]
  have hlen2 : (cre b).length = nb := by rw [← HBb.out.len]; simp [cre]
  have HL1 := Lib.hid hlen1; have HL2 := Lib.hid hlen2; clear hlen1 hlen2
  have HLC : Hid ((cre a).length = na) := by show _ = _; rw [← HA.out.len]; simp [cre]
  have HR := Lib.hid (dif_fol a b HSA.out HSB.out)
  go_enter Tryd.func22, Tryd.ntmps22
  go_wp2_with fail
  refine (HV1.out _ HA.out).mono ?_
  rintro e w1 ⟨rfl, hb1⟩
  have HB1 := Lib.hid hb1; clear hb1
  go_wp2_with fail
  refine (HV2.out _ (HBb.out.up HB1.out (Nat.le_refl _))).mono ?_
  rintro e w2 ⟨rfl, hb2⟩
  have HB2 := Lib.hid (HB1.out.trans (hb2.mono HB1.out.size)); clear hb2
  go_wp2_with fail
  refine (creations_any spa na ca a _ (HA.out.up HB2.out (Nat.le_refl _)) (by omega)).mono ?_
  rintro e w3 ⟨sp3, cap3, rfl, ho3, hb3⟩
  have HO3 := Lib.hid ho3
  have HB3 := Lib.hid (HB2.out.trans (hb3.mono HB2.out.size)); clear hb3 ho3
  go_wp2_with fail
  refine (inverse_any sp3 na cap3 (cre a) _ (HO3.out.cgs HLC.out) (by omega)).mono ?_
  rintro e w4 ⟨sp4, cap4, rfl, ho4, hb4⟩
  have HO4 := Lib.hid ho4
  have HB4 := Lib.hid (HB3.out.trans (hb4.mono HB3.out.size)); clear hb4 ho4
  go_wp2_with fail
  refine (creations_any spb nb cb b _ (HBb.out.up HB4.out (Nat.le_refl _)) (by omega)).mono ?_
  rintro e w5 ⟨sp5, cap5, rfl, ho5, hb5⟩
  have HO5 := Lib.hid ho5
  have HO4' := Lib.hid (HO4.out.below hb5)
  have HB5 := Lib.hid (HB4.out.trans (hb5.mono HB4.out.size)); clear hb5 ho5
  go_wp2_with fail
  have hfol := follow_any sp4 na cap4 (inv (cre a)) sp5 nb cap5 (cre b) w5 (by omega) (by omega) (HO4'.out.cgs HL1.out) (HO5.out.cgs HL2.out)
  rw [HR.out] at hfol
  have HFO := Lib.hid hfol; clear hfol
  refine HFO.out.mono ?_
  rintro e w6 ⟨sp6, cap6, rfl, ho6, hb6⟩
  have HO6 := Lib.hid (ho6.base HB5.out.size)
  have HB6 := Lib.hid (HB5.out.trans (hb6.mono HB5.out.size)); clear hb6 ho6
  go_wp2_with fail
  go_ret2
  exact resC_ok (l := cdif a b) (by unfold sDiff; rw [HC1.out, HC2.out]; rfl) rfl rfl HO6.out HB6.out
/-- the entries of changes -/
def mapE (l : List Cg) : List En := l.map toE
set_option maxRecDepth 100000 in
set_option maxHeartbeats 1000000 in
theorem Apply_any (spa : Option Addr) (na ca : Nat) (s : List En) (spb : Option Addr) (nb cb : Nat) (b : List Cg) (w : World) (ha : EnsIn w w.heap.size spa na ca s) (hb : CgsIn w w.heap.size spb nb cb b) (hna : na ≤ 100000) (hnb : nb ≤ 100000) :
    Calls Tryd.prog 23 #[.slice spa na ca, .slice spb nb cb] w (ResE w (sApply s b)) := by
  have HA := Lib.hid ha; have HBb := Lib.hid hb; clear ha hb
  obtain ⟨c1, hc1⟩ : ∃ c, vldE s = c := ⟨_, rfl⟩
  obtain ⟨c2, hc2⟩ : ∃ c, vldC b = c := ⟨_, rfl⟩
  have hv1 := fun w' (h : EnsIn w' w'.heap.size spa na ca s) => Valid_any spa na ca s w' h (by omega)
  have hv2 := fun w' (h : CgsIn w' w'.heap.size spb nb cb b) => validChanges_any spb nb cb b w' h (by omega)
  rw [hc1] at hv1; rw [hc2] at hv2
  have HV1 := Lib.hid hv1; have HV2 := Lib.hid hv2; have HC1 := Lib.hid hc1; have HC2 := Lib.hid hc2
  clear hv1 hv2 hc1 hc2
  cases c1
  · go_enter Tryd.func23, Tryd.ntmps23
    go_wp2_with fail
    refine (HV1.out _ HA.out).mono ?_
    rintro e w1 ⟨rfl, hb1⟩
    have HB1 := Lib.hid hb1; clear hb1
    go_wp2_with fail
    go_ret2
    exact resE_error (by unfold sApply; rw [HC1.out]; rfl) rfl HB1.out
  cases c2
  · go_enter Tryd.func23, Tryd.ntmps23
    go_wp2_with fail
    refine (HV1.out _ HA.out).mono ?_
    rintro e w1 ⟨rfl, hb1⟩
    have HB1 := Lib.hid hb1; clear hb1
    go_wp2_with fail
    refine (HV2.out _ (HBb.out.up HB1.out (Nat.le_refl _))).mono ?_
    rintro e w2 ⟨rfl, hb2⟩
    have HB2 := Lib.hid (HB1.out.trans (hb2.mono HB1.out.size)); clear hb2
    go_wp2_with fail
    go_ret2
    exact resE_error (by unfold sApply; rw [HC1.out, HC2.out]; rfl) rfl HB2.out
  have hlen1 : (cre s).length = na := by rw [← HA.out.len]; simp [cre]
  have HL1 := Lib.hid hlen1; clear hlen1
  obtain ⟨r, hr⟩ : ∃ r, fol (cre s) b = r := ⟨_, rfl⟩
  have hf := fun sp' cap' w' (h1 : CgsIn w' w'.heap.size sp' na cap' (cre s)) (h2 : CgsIn w' w'.heap.size spb nb cb b) => follow_any sp' na cap' (cre s) spb nb cb b w' (by omega) (by omega) h1 h2
  rw [hr] at hf
  have HLN : Hid (∀ l, r = some l → l.length ≤ na + nb) := by
    intro l hl
    rw [hl] at hr
    unfold fol at hr
    split at hr
    · injection hr with hr
      rw [← hr]
      exact Nat.le_trans (List.length_filterMap_le _ _) (by have := length_sbs (cre s) b; have h1 := HL1.out; have h2 := HBb.out.len; omega)
    · cases hr
  have HF := Lib.hid hf; have HR := Lib.hid hr; clear hf hr
  have HS : Hid (sApply s b = finA r) := by show _ = _; unfold sApply; rw [HC1.out, HC2.out, HR.out]; rfl
  go_enter Tryd.func23, Tryd.ntmps23
  go_wp2_with fail
  refine (HV1.out _ HA.out).mono ?_
  rintro e w1 ⟨rfl, hb1⟩
  have HB1 := Lib.hid hb1; clear hb1
  go_wp2_with fail
  refine (HV2.out _ (HBb.out.up HB1.out (Nat.le_refl _))).mono ?_
  rintro e w2 ⟨rfl, hb2⟩
  have HB2 := Lib.hid (HB1.out.trans (hb2.mono HB1.out.size)); clear hb2
  go_wp2_with fail
  refine (creations_any spa na ca s _ (HA.out.up HB2.out (Nat.le_refl _)) (by omega)).mono ?_
  rintro e w3 ⟨sp3, cap3, rfl, ho3, hb3⟩
  have HO3 := Lib.hid ho3
  have HB3 := Lib.hid (HB2.out.trans (hb3.mono HB2.out.size)); clear hb3 ho3
  go_wp2_with fail
  refine (HF.out sp3 cap3 w3 (HO3.out.cgs HL1.out) (HBb.out.up HB3.out (Nat.le_refl _))).mono ?_
  rintro e w4 hres
  cases r with
  | none =>
    obtain ⟨rfl, hb4⟩ := hres
    have HB4 := Lib.hid (HB3.out.trans (hb4.mono HB3.out.size)); clear hb4
    go_wp2_with fail
    go_ret2
    exact resE_error HS.out rfl HB4.out
  | some m =>
    obtain ⟨sp4, cap4, rfl, ho4, hb4⟩ := hres
    obtain ⟨N, hN⟩ : ∃ N, m.length = N := ⟨_, rfl⟩
    have hNb : N ≤ 200000 := by have := HLN.out m rfl; omega
    rw [hN] at ho4 ⊢
    have HLm := Lib.hid hN; clear hN
    have HO4 := Lib.hid ho4
    have HB4 := Lib.hid (HB3.out.trans (hb4.mono HB3.out.size)); clear hb4 ho4
    obtain ⟨c3, hc3⟩ : ∃ c, m.any needB = c := ⟨_, rfl⟩
    have hcn := containsN_any sp4 N cap4 m w4 (HO4.out.cgs HLm.out) (by omega)
    rw [hc3] at hcn
    have HCN := Lib.hid hcn; have HC3 := Lib.hid hc3; clear hcn hc3
    cases c3 with
    | true =>
      have HS2 : Hid (sApply s b = .error 9) := by show _ = _; rw [HS.out, finA_some, HC3.out]; rfl
      go_wp2_with fail
      refine HCN.out.mono ?_
      rintro e w5 ⟨rfl, hb5⟩
      have HB5 := Lib.hid (HB4.out.trans (hb5.mono HB4.out.size)); clear hb5
      go_wp2_with fail
      go_ret2
      exact resE_error HS2.out rfl HB5.out
    | false =>
    by_cases h64 : 64 < N
    · have hd : decide ((N : Int) > 64) = true := by simp; omega
      have HS2 : Hid (sApply s b = .error 3) := by show _ = _; rw [HS.out, finA_some, HC3.out, if_neg (by simp), HLm.out]; exact if_pos h64
      clear h64
      go_wp2_with fail
      refine HCN.out.mono ?_
      rintro e w5 ⟨rfl, hb5⟩
      have HB5 := Lib.hid (HB4.out.trans (hb5.mono HB4.out.size)); clear hb5
      go_wp2_with fail
      go_ret2
      exact resE_error HS2.out rfl HB5.out
    have hd : decide ((N : Int) > 64) = false := by simp; omega
    have HS2 : Hid (sApply s b = .ok (mapE m)) := by show _ = _; rw [HS.out, finA_some, HC3.out, if_neg (by simp), HLm.out]; exact if_neg h64
    clear h64
    go_wp2_with fail
    refine HCN.out.mono ?_
    rintro e w5 ⟨rfl, hb5⟩
    have HM := Lib.hid ((HO4.out.below hb5).cgs HLm.out)
    have HB5 := Lib.hid (HB4.out.trans (hb5.mono HB4.out.size)); clear hb5
    clear HF HR HO3 HO4 HCN HV1 HV2 HLN
    obtain ⟨i0, hi0, hz0, hz1, hz2⟩ := info_parts infoE3
    have hws := HB5.out.size
    go_wp2_with (refine wpList_make_own w5 rfl _ _ 22 rfl w5.heap.size 70 i0 _ 33 Tryd.underlying22 hi0 hz0 hz1 .i64 .i64 (N : Int) N rfl rfl rfl (by rw [hz2]; omega) (by unfold maxLen; omega) (Nat.le_refl _) ?_; intro w6 hown6 hg6)
    have HB1' := Lib.hid ((Below.refl w5.heap.size w5).grown hg6 (Nat.le_refl _) (fun k e => by cases e))
    have HO1 := Lib.hid hown6
    clear hg6 hown6 hi0 hz0 hz1 hz2
    go_loopw [8, 40] (fun v i wr => ∃ (k : Nat) (sp' : Option Addr) (cap' : Nat), k ≤ N ∧ i = .int .i64 k ∧ v = .slice sp' k cap' ∧ Hid (OwnE wr w5.heap.size (.slice sp' k cap') (mapE (m.take k))) ∧ Hid (Below w5.heap.size w5 wr)) (fun _ i _ => N - (intOf i).toNat)
    case atStart => exact ⟨0, _, _, Nat.zero_le _, rfl, rfl, ⟨HO1.out, by simp [mapE, toE]⟩, HB1'.out⟩
    case round =>
      clear HO1 HB1'
      obtain ⟨k, sp', cap', hk, rfl, rfl, hown, hbe⟩ := hrel
      have hbs := hbe.out.size
      by_cases hlt : k < N
      · have hd : decide ((k : Int) < (N : Int)) = true := by simp; omega
        obtain ⟨b, off, rfl, hbB, hcap, hr⟩ := HM.out.cells (by omega)
        have hkl : k < m.length := by rw [HM.out.len]; exact hlt
        obtain ⟨x, hx⟩ : ∃ x, m[k]? = some x := ⟨m[k], List.getElem?_eq_getElem hkl⟩
        have hok := HM.out.ok x (List.mem_of_getElem? hx)
        have HR := Lib.hid (range_belowS (hr k x hx) hbe.out hbB)
        have HI := Lib.hid (info_c hok); have HOK := Lib.hid hok
        have HS : Hid (65 = (cgL x).toArray.size) := by show _ = _; rw [List.size_toArray, cgL_length hok]
        have HT : Hid (mapE (m.take (k + 1)) = mapE (m.take k) ++ [⟨x.p, x.n⟩]) := by show _ = _; rw [List.take_add_one, hx]; simp [mapE, toE]
        have HKL : Hid (k = (mapE (m.take k)).length) := by show _ = _; simp [mapE, toE]; omega
        have p1 : (0 : Int) ≤ (k : Int) := by omega
        have p2 : (k : Int) < (N : Int) := by omega
        clear hr hx hkl hok
        go_wp2_with (first
          | (refine wpList_load_mid rfl 81 _ rfl b (off + k * 65) rfl _ _ HR.out Tryd.underlying81 rfl HI.out ?_)
          | (refine wpList_store_row rfl 81 _ _ rfl wr.heap.size _ rfl rfl 81 _ (heap_alloc_new wr _) (by simpa using HI.out) (by simpa using HS.out) (Array.all_eq_true_iff_forall_mem.2 (by simpa using cgL_one x)) ?_; rw [setRow_new]; generalize hw2 : World.alloc wr _ = w2; have he2 : CgB w2 wr.heap.size x := (by rw [← hw2]; exact heap_alloc_new _ _); have hb2 : Below wr.heap.size wr w2 := (by rw [← hw2]; exact (Below.refl _ _).alloc (Nat.le_refl _) _); have hz2 : wr.heap.size < w2.heap.size := (by rw [← hw2]; simp); have hp2 := he2.p; have HE2 := Lib.hid he2; have HW2 := Lib.hid hb2; have HO2 := Lib.hid (hown.out.below hb2); clear hw2 he2 hb2)
          | (refine wpList_load_mid rfl 28 _ rfl wr.heap.size 33 rfl _ _ (HE2.out.n HOK.out) Tryd.underlying28 rfl (info_d HOK.out.2) ?_)
          | (refine wpList_build_eq rfl 70 [(0, .tmp 46), (1, .tmp 48)] rfl [(0, .string x.p), (1, .agg (x.n.map (Value.int .u8)).toArray)] rfl _ (buildE x.p x.n HOK.out.2.1 _) ?_)
          | (refine wpList_slice_eq rfl 22 1 [(0, .tmp 49)] rfl [(0, .agg (enL ⟨x.p, x.n⟩).toArray)] rfl _ _ (sliceE _ ⟨x.p, x.n⟩ HOK.out.2) ?_; generalize hw3 : World.alloc w2 _ = w3; have he3 : EnB w3 w2.heap.size ⟨x.p, x.n⟩ := (by rw [← hw3]; exact heap_alloc_new _ _); have hb3 : Below w2.heap.size w2 w3 := (by rw [← hw3]; exact (Below.refl _ _).alloc (Nat.le_refl _) _); have hz3 : w2.heap.size < w3.heap.size := (by rw [← hw3]; simp); have HE3 := Lib.hid he3; have HW3 := Lib.hid (HW2.out.trans (hb3.mono (by omega))); have HO3 := Lib.hid (HO2.out.below hb3); clear hw3 he3 hb3)
          | (at_builtin; refine wpList_append_en rfl (.tmp 44) (.tmp 50) rfl w5.heap.size _ _ k HKL.out rfl HO3.out w2.heap.size ⟨x.p, x.n⟩ rfl HE3.out HOK.out.2 (by omega) (by omega) ?_; intro sp4 cap4 w4 HO4 HB4 HG4))
        have HB5 := Lib.hid ((hbe.out.trans (HW3.out.mono hbs)).trans HB4.out)
        go_roundw
        case rel => exact ⟨k + 1, sp4, cap4, hlt, by go_num, rfl, by show OwnE _ _ _ _; rw [HT.out]; exact HO4.out, HB5.out⟩
        case measure => simp [intOf]; omega
      · obtain rfl : k = N := by omega
        have hd : decide ((k : Int) < (k : Int)) = false := by simp
        have HT : Hid (mapE (m.take k) = mapE m) := by show _ = _; rw [List.take_of_length_le (by rw [HM.out.len]; exact Nat.le_refl _)]
        go_wp2_with fail
        go_ret2
        exact resE_ok HS2.out (by rw [← HLm.out]; simp [mapE, toE]) rfl ((show OwnE _ _ _ (mapE m) by rw [← HT.out]; exact hown.out).base hws) (HB5.out.trans (hbe.out.mono hws))
end Go.Proofs.YtkookkhlgllneaaDoor
