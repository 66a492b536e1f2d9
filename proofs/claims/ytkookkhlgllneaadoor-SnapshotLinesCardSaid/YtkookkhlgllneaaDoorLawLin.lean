/-
  The walk of the statement SnapshotLines (conditions: digests of 32 bytes; no string is longer than an int).
-/
import Derived.Test.YtkookkhlgllneaaDoorGk
import Derived.Test.YtkookkhlgllneaaDoorLawSnA
namespace Go.Proofs.YtkookkhlgllneaaDoor
open Go.RowKit

theorem readL_short (tag : ByteArray) (L : List (List ByteArray)) : (vE (readL tag L)).1.length ≤ L.length := by
  unfold readL
  cases h : rawL tag L with
  | none => simp [vE]
  | some l =>
    have := rawL_length h
    show (vE (if vldE l then .ok l else .error 1)).1.length ≤ _
    split
    · show l.length ≤ _; omega
    · simp [vE]
theorem vE_back {tag : ByteArray} {s : List En} (h : ∀ x ∈ s, OkE x) : vE (readL tag (s.map (lineE tag))) = if vldE s then (s, 0) else ([], 1) := by
  rw [readL_back tag s h]
  split <;> rfl
theorem lines_small {tag : ByteArray} {l : List En} (hl : ∀ x ∈ l, OkE x) {ls : List Ln} (h : wordsOf ls = l.map (lineE tag)) : ∀ q ∈ ls, ∀ t p f, q.l = [t, p, f] → f.size ≤ 9223372036854775807 := by
  intro q hq t p f e
  have h1 : q.l ∈ wordsOf ls := List.mem_map.2 ⟨q, hq, rfl⟩
  rw [h] at h1
  obtain ⟨x, hx, hxq⟩ := List.mem_map.1 h1
  rw [e] at hxq
  unfold lineE at hxq
  injection hxq with _ hxq; injection hxq with _ hxq; injection hxq with hxq
  rw [← hxq, fmtD_size _ (hl x hx).1]; omega
theorem lines_three {tag : ByteArray} {l : List En} {w : World} {B np : Nat} {pa : Option Addr} {ls : List Ln} (hL : LinesIn w B pa np ls) (h : wordsOf ls = l.map (lineE tag)) : ∀ q ∈ ls, q.n ≤ 9223372036854775807 := by
  intro q hq
  have h1 : q.l ∈ wordsOf ls := List.mem_map.2 ⟨q, hq, rfl⟩
  rw [h] at h1
  obtain ⟨x, hx, hxq⟩ := List.mem_map.1 h1
  have h2 := (hL.each q hq).len
  rw [← hxq] at h2
  have : (lineE tag x).length = 3 := rfl
  omega
set_option maxRecDepth 100000 in
set_option maxHeartbeats 2000000 in
theorem snapshotLines_any (tag : ByteArray) (sp : Option Addr) (n cap : Nat) (l : List En) (pa : Option Addr) (np ncap : Nat) (ls : List Ln) (w : World) (hl : EnsIn w w.heap.size sp n cap l) (hp : LinesIn w w.heap.size pa np ls) (hmax2 : ∀ q ∈ ls, q.n ≤ 9223372036854775807) (hsz : ∀ q ∈ ls, ∀ t p f, q.l = [t, p, f] → f.size ≤ 9223372036854775807) :
    Calls Tryd.prog 7 #[.string tag, .slice sp n cap, .slice pa np ncap] w fun e w' => e = .returned (.bool true) ∧ Below w.heap.size w w' := by
  have HL := Lib.hid hl; have HP := Lib.hid hp; clear hl hp
  by_cases h1 : n ≤ 200
  case neg =>
    have hf := light4_any sp n cap w
    rw [decide_eq_false h1] at hf
    have HF := Lib.hid hf; clear hf h1
    go_enter Tryd.func7, Tryd.ntmps7
    go_wp2_with fail
    refine HF.out.mono ?_
    rintro e w1 ⟨rfl, rfl⟩
    go_wp2_with fail
    go_ret
    exact ⟨rfl, Below.refl _ _⟩
  have hf := light4_any sp n cap w
  rw [decide_eq_true h1] at hf
  have HF := Lib.hid hf; clear hf
  by_cases h2 : np ≤ 100
  case neg =>
    have hd : decide ((np : Int) > 100) = true := by simp; omega
    clear h1 h2
    go_enter Tryd.func7, Tryd.ntmps7
    go_wp2_with fail
    refine HF.out.mono ?_
    rintro e w1 ⟨rfl, rfl⟩
    go_wp2_with fail
    go_ret
    exact ⟨rfl, Below.refl _ _⟩
  have hd : decide ((np : Int) > 100) = false := by simp; omega
  have hs1 := readL_short tag (wordsOf ls)
  rw [wordsOf_length, HP.out.len] at hs1
  have HC1 := Lib.hid (fun w1 (h : LinesIn w1 w1.heap.size pa np ls) => (Read_any tag pa np ncap ls w1 h (by omega) hmax2 hsz).mono fun e w' h => h.uni)
  have HC2 := Lib.hid (fun w1 (h : LinesIn w1 w1.heap.size pa np ls) => (refRead_any tag pa np ncap ls w1 h (by omega) hmax2 hsz).mono fun e w' h => h.uni)
  have HC3 := Lib.hid (fun w1 (h : EnsIn w1 w1.heap.size sp n cap l) => Lines_any tag sp n cap l w1 h (by omega))
  have HC4 := Lib.hid (fun w1 (h : EnsIn w1 w1.heap.size sp n cap l) => refLines_any tag sp n cap l w1 h (by omega))
  have HC5 : Hid (∀ (w1 : World) (pb : Option Addr) (cb : Nat) (lb : List Ln), LinesIn w1 w1.heap.size pb n lb → wordsOf lb = l.map (lineE tag) → Calls Tryd.prog 33 #[.string tag, .slice pb n cb] w1 fun e w' => ∃ sp n' cap, e = .returned (.tuple #[.slice sp n' cap, .int .i64 (if vldE l then (l, (0 : Int)) else ([], 1)).2]) ∧ EnsIn w' w'.heap.size sp n' cap (if vldE l then (l, (0 : Int)) else ([], 1)).1 ∧ Below w1.heap.size w1 w') := fun w1 pb cb lb hb hw => by
    have hr := Read_any tag pb n cb lb w1 hb (by omega) (lines_three hb hw) (lines_small HL.out.ok hw)
    rw [hw] at hr
    have hv := vE_back (tag := tag) HL.out.ok
    refine hr.mono fun e w' h => ?_
    have hu := h.uni
    rw [hv] at hu
    exact hu
  have HC6 := Lib.hid (fun w1 (h : EnsIn w1 w1.heap.size sp n cap l) => Valid_any sp n cap l w1 h (by omega))
  have HS : Hid (∀ (w1 : World) pa1 c1 (la : List Ln) pb1 c2 (lb : List Ln), LinesIn w1 w1.heap.size pa1 n la → LinesIn w1 w1.heap.size pb1 n lb → wordsOf la = l.map (lineE tag) → wordsOf lb = l.map (lineE tag) → Calls Tryd.prog 35 #[.slice pa1 n c1, .slice pb1 n c2] w1 fun e w' => e = .returned (.bool true) ∧ Below w1.heap.size w1 w') := fun w1 pa1 c1 la pb1 c2 lb ha hb hwa hwb => by
    have e1 := ha.len
    have e2 := hb.len
    have h3 := sameLines_any pa1 pb1 c1 c2 w1.heap.size la lb w1 (by rw [e1]; exact ha) (by rw [e2]; exact hb) (hwa.trans hwb.symm) (by omega) (lines_three ha hwa)
    rw [e1, e2] at h3
    refine h3.mono fun e w' ⟨h4, m, h5⟩ => ⟨h4, ?_⟩
    rw [h5]; exact below_drewN (Below.refl _ _) m
  generalize vE (readL tag (wordsOf ls)) = rc at *
  obtain ⟨rl, rk⟩ := rc
  simp only at hs1 HC1 HC2
  have hrl : rl.length ≤ 1000 := by omega
  obtain ⟨cv, hcv⟩ : ∃ c, vldE l = c := ⟨_, rfl⟩
  rw [hcv] at HC5 HC6
  have HN := Lib.hid h1
  clear hs1 h1 h2 hmax2 hsz hcv
  go_enter Tryd.func7, Tryd.ntmps7
  go_wp2_with fail
  refine HF.out.mono ?_
  rintro e w1 ⟨rfl, rfl⟩
  go_wp2_with fail
  refine (HC1.out w HP.out).mono ?_
  rintro e w1 ⟨sp1, n1, cp1, rfl, hx1, hb1⟩
  have HX1 := Lib.hid hx1; have HB1 := Lib.hid hb1; clear hx1 hb1
  go_wp2_with fail
  refine (HC2.out w1 ((HP.out.below HB1.out (Nat.le_refl _)).more HB1.out.size)).mono ?_
  rintro e w2 ⟨sp2, n2, cp2, rfl, hx2, hb2⟩
  have HX12 := Lib.hid (HX1.out.up hb2 (Nat.le_refl _))
  have HX2 := Lib.hid hx2; have HB2 := Lib.hid (HB1.out.trans (hb2.mono HB1.out.size)); clear hx2 hb2
  have hq1 := sameE_any sp1 n1 cp1 rl sp2 n2 cp2 rl w2 HX12.out HX2.out (by have := HX12.out.len; omega)
  rw [decide_eq_true rfl] at hq1
  have HQ1 := Lib.hid hq1; clear hq1
  have hne : (!((rk : Int) == rk)) = false := by simp
  go_wp2_with fail
  refine HQ1.out.mono ?_
  rintro e w3 ⟨rfl, hb3⟩
  have HB3 := Lib.hid (HB2.out.trans (hb3.mono HB2.out.size)); clear hb3
  go_wp2_with fail
  refine (HC3.out w3 (HL.out.up HB3.out (Nat.le_refl _))).mono ?_
  rintro e w4 ⟨sp4, cp4, l4, rfl, hl4, hw4, ho4, hb4⟩
  have HW4 := Lib.hid hw4; have HL4 := Lib.hid (ho4.lines hl4); have HB4 := Lib.hid (HB3.out.trans (hb4.mono HB3.out.size)); clear hl4 hw4 ho4 hb4
  go_wp2_with fail
  refine (HC4.out w4 (HL.out.up HB4.out (Nat.le_refl _))).mono ?_
  rintro e w5 ⟨sp5, cp5, l5, rfl, hl5, hw5, ho5, hb5⟩
  have HL45 := Lib.hid ((HL4.out.below hb5 (Nat.le_refl _)).more hb5.size)
  have HW5 := Lib.hid hw5; have HL5 := Lib.hid (ho5.lines hl5); have HB5 := Lib.hid (HB4.out.trans (hb5.mono HB4.out.size)); clear hl5 hw5 ho5 hb5
  go_wp2_with fail
  refine (HS.out w5 sp4 cp4 l4 sp5 cp5 l5 HL45.out HL5.out HW4.out HW5.out).mono ?_
  rintro e w6 ⟨rfl, hb6⟩
  have HB6 := Lib.hid (HB5.out.trans (hb6.mono HB5.out.size)); clear hb6
  go_wp2_with fail
  refine (HC3.out w6 (HL.out.up HB6.out (Nat.le_refl _))).mono ?_
  rintro e w7 ⟨sp7, cp7, l7, rfl, hl7, hw7, ho7, hb7⟩
  have HW7 := Lib.hid hw7; have HL7 := Lib.hid (ho7.lines hl7); have HB7 := Lib.hid (HB6.out.trans (hb7.mono HB6.out.size)); clear hl7 hw7 ho7 hb7
  go_wp2_with fail
  cases cv
  · refine (HC5.out w7 sp7 cp7 l7 HL7.out HW7.out).mono ?_
    rintro e w8 ⟨sp8, n8, cp8, rfl, hx8, hb8⟩
    have HB8 := Lib.hid (HB7.out.trans (hb8.mono HB7.out.size)); clear hx8 hb8
    go_wp2_with fail
    refine (HC6.out w8 (HL.out.up HB8.out (Nat.le_refl _))).mono ?_
    rintro e w9 ⟨rfl, hb9⟩
    have HB9 := Lib.hid (HB8.out.trans (hb9.mono HB8.out.size)); clear hb9
    go_wp2_with fail
    refine (awake4_any w9).mono ?_
    rintro e w10 ⟨rfl, hb10⟩
    have HB10 := Lib.hid (HB9.out.trans (hb10.mono HB9.out.size)); clear hb10
    go_wp2_with fail
    go_ret
    exact ⟨rfl, HB10.out⟩
  · refine (HC5.out w7 sp7 cp7 l7 HL7.out HW7.out).mono ?_
    rintro e w8 ⟨sp8, n8, cp8, rfl, hx8, hb8⟩
    have HX8 : Hid (EnsIn w8 w8.heap.size sp8 n8 cp8 l) := hx8
    have HB8 := Lib.hid (HB7.out.trans (hb8.mono HB7.out.size)); clear hx8 hb8
    go_wp2_with fail
    refine (HC6.out w8 (HL.out.up HB8.out (Nat.le_refl _))).mono ?_
    rintro e w9 ⟨rfl, hb9⟩
    have HX9 := Lib.hid (HX8.out.up hb9 (Nat.le_refl _))
    have HB9 := Lib.hid (HB8.out.trans (hb9.mono HB8.out.size)); clear hb9
    go_wp2_with fail
    refine (awake4_any w9).mono ?_
    rintro e w10 ⟨rfl, hb10⟩
    have HX10 := Lib.hid (HX9.out.up hb10 (Nat.le_refl _))
    have HB10 := Lib.hid (HB9.out.trans (hb10.mono HB9.out.size)); clear hb10
    have hq2 := sameE_any sp8 n8 cp8 l sp n cap l w10 HX10.out (HL.out.up HB10.out (Nat.le_refl _)) (by have := HX10.out.len; have := HL.out.len; have := HN.out; omega)
    rw [decide_eq_true rfl] at hq2
    have HQ2 := Lib.hid hq2; clear hq2
    go_wp2_with fail
    refine HQ2.out.mono ?_
    rintro e w11 ⟨rfl, hb11⟩
    have HB11 := Lib.hid (HB10.out.trans (hb11.mono HB10.out.size)); clear hb11
    go_wp2_with fail
    go_ret
    exact ⟨rfl, HB11.out⟩
end Go.Proofs.YtkookkhlgllneaaDoor
