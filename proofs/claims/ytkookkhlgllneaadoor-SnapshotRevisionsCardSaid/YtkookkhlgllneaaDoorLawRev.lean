/-
  The walk of the statement SnapshotRevisions (conditions: digests of 32 bytes; the table of constants reads as it is laid).
-/
import Derived.Test.YtkookkhlgllneaaDoorRevA
import Derived.Test.YtkookkhlgllneaaDoorLawSnD
namespace Go.Proofs.YtkookkhlgllneaaDoor
open Go.RowKit

theorem Snap.small {l : List En} (h : Snap l) (hd : ∀ x ∈ l, OkE x) : ∀ x ∈ l, x.p.size ≤ 200 ∧ x.d.length = 32 := by
  intro x hx
  refine ⟨?_, (hd x hx).1⟩
  have h3 := h.path x hx
  unfold pathB at h3
  rw [Bool.and_eq_true, Bool.and_eq_true] at h3
  exact of_decide_eq_true h3.1.1
set_option maxRecDepth 100000 in
set_option maxHeartbeats 2000000 in
theorem snapshotRevisions_any (spa : Option Addr) (na ca : Nat) (a : List En) (spt : Option Addr) (nt ct : Nat) (lt : List Int) (w : World)
    (ha : EnsIn w w.heap.size spa na ca a) (ht : IntsT w w.heap.size spt nt ct lt) (hk : KayIn w) (hk0 : 1 < w.heap.size) :
    Calls Tryd.prog 8 #[.slice spa na ca, .slice spt nt ct] w fun e w' => e = .returned (.bool true) ∧ Below w.heap.size w w' := by
  have HA := Lib.hid ha; have HTP := Lib.hid ht.tape; have HK := Lib.hid hk; have HK0 := Lib.hid hk0; clear ha ht hk hk0
  by_cases h1 : na ≤ 200
  case neg =>
    have hf := light4_any spa na ca w
    rw [decide_eq_false h1] at hf
    have HF := Lib.hid hf; clear hf h1
    go_enter Tryd.func8, Tryd.ntmps8
    go_wp2_with fail
    refine HF.out.mono ?_
    rintro e w1 ⟨rfl, rfl⟩
    go_wp2_with fail
    go_ret
    exact ⟨rfl, Below.refl _ _⟩
  have hf := light4_any spa na ca w
  rw [decide_eq_true h1] at hf
  have HF := Lib.hid hf; clear hf
  have HB0 := Lib.hid ((Below.refl w.heap.size w).alloc (Nat.le_refl _) (.cells #[.slice spt nt ct, .int .i64 0] 37))
  have HRV := Lib.hid (fun (s1 : Option Addr) (m1 c1 : Nat) (x : List En) w1 (h1 : EnsIn w1 w1.heap.size s1 m1 c1 x) (k1 : m1 ≤ 1000) (hb : Below w.heap.size w w1) => Revision_any s1 m1 c1 x w1 h1 k1 (HK.out.below hb HK0.out) (by have := hb.size; have := HK0.out; omega))
  have HRR := Lib.hid (fun (s1 : Option Addr) (m1 c1 : Nat) (x : List En) w1 (h1 : EnsIn w1 w1.heap.size s1 m1 c1 x) (k1 : m1 ≤ 1000) => refRevision_any s1 m1 c1 x w1 h1 k1)
  go_enter Tryd.func8, Tryd.ntmps8
  go_wp2_with fail
  refine HF.out.mono ?_
  rintro e w1 ⟨rfl, rfl⟩
  go_wp2_with (refine wpList_build_eq rfl 37 [(0, .tmp 11)] rfl [(0, .slice spt nt ct)] rfl _ (buildTp _ ⟨_, _, _, rfl⟩ _) ?_)
  generalize hw0 : World.alloc w _ = w0
  have htp : Tp w0 w.heap.size 1000 := by rw [← hw0]; exact ⟨_, _, _, _, _, HTP.out, by omega⟩
  have hb0 : Below w.heap.size w w0 := by rw [← hw0]; exact HB0.out
  have HT0 := Lib.hid htp; have HBL0 := Lib.hid hb0
  have htl := htp.lt
  clear hw0 htp hb0
  refine (snapshot_any w.heap.size 8 100 w0 (HT0.out.le (by omega)) (by omega)).mono ?_
  rintro e w1 ⟨spc, nc, cc, c, rfl, hec, hac, hsc, hnc, ht1, hu1⟩
  have HEC := Lib.hid hec; have HSC := Lib.hid hsc
  have HB1 := Lib.hid (HBL0.out.trans (hu1.below (Nat.le_refl _) htl))
  clear hec hac hsc ht1 hu1
  have hcl : c.length = nc := HEC.out.len
  have HSM := Lib.hid (HSC.out.small HEC.out.ok)
  have HEN := Lib.hid (fun (w1 : World) (pb : Option Addr) (cb : Nat) (lb : List Ln) (hb : LinesIn w1 w1.heap.size pb nc lb) (hw : wordsOf lb = c.map (lineE tagF)) => (Encode_any pb nc cb lb w1 hb (by omega) (lines_lt hb hw)).mono fun e w' h => encRes_snap hw HSM.out (by omega) h)
  have HLI := Lib.hid (Lines_any tagF spc nc cc c w1 HEC.out (by omega))
  have hem : decide ((encL (c.map (lineE tagF))).length > 0) = decide (nc > 0) := by rw [← hcl]; exact encL_empty
  have heqA := eql_rvD a
  have heqC := eql_rvD c
  have HRA := Lib.hid (HRV.out spa na ca a); have HRAR := Lib.hid (HRR.out spa na ca a)
  have HRC := Lib.hid (HRV.out spc nc cc c); have HRCR := Lib.hid (HRR.out spc nc cc c)
  clear HRV HRR
  generalize ((rvD a).map (Value.int .u8)).toArray = A at *
  generalize ((rvD c).map (Value.int .u8)).toArray = C at *
  generalize encL (c.map (lineE tagF)) = E at *
  obtain ⟨m, hm⟩ : ∃ m, E.length = m := ⟨_, rfl⟩
  rw [hm] at HEN hem
  have HM := Lib.hid hm; clear hm hcl
  obtain ⟨bb, hbb⟩ : ∃ bb, decide (nc > 0) = bb := ⟨_, rfl⟩
  rw [hbb] at hem
  have HZ : Hid ((decide (0 < m) == decide (0 < nc)) = true) := by show (decide (m > 0) == decide (nc > 0)) = true; rw [hem, hbb]; simp
  clear hem hbb
  go_wp2_with fail
  refine HLI.out.mono ?_
  rintro e w2 ⟨sp2, cp2, l2, rfl, hl2, hw2, ho2, hb2⟩
  have HW2 := Lib.hid hw2; have HL2 := Lib.hid (ho2.lines hl2); have HC2 := Lib.hid (HEC.out.up hb2 (Nat.le_refl _)); have HB2 := Lib.hid (HB1.out.trans (hb2.mono HB1.out.size)); clear hl2 hw2 ho2 hb2
  go_wp2_with fail
  refine (HEN.out w2 sp2 cp2 l2 HL2.out HW2.out).mono ?_
  rintro e w3 ⟨sp3, cp3, rfl, hs3, hnil3, hb3⟩
  have HC3 := Lib.hid (HC2.out.up hb3 (Nat.le_refl _)); have HB3 := Lib.hid (HB2.out.trans (hb3.mono HB2.out.size)); clear hs3 hnil3 hb3
  go_wp2_with fail
  refine (awake4_any w3).mono ?_
  rintro e w4 ⟨rfl, hb4⟩
  have HC4 := Lib.hid (HC3.out.up hb4 (Nat.le_refl _)); have HB4 := Lib.hid (HB3.out.trans (hb4.mono HB3.out.size)); clear hb4
  go_wp2_with fail
  refine (HRA.out w4 (HA.out.up HB4.out (Nat.le_refl _)) (by omega) HB4.out).mono ?_
  rintro e w5 ⟨rfl, hb5⟩
  have HC5 := Lib.hid (HC4.out.up hb5 (Nat.le_refl _)); have HB5 := Lib.hid (HB4.out.trans (hb5.mono HB4.out.size)); clear hb5
  go_wp2_with fail
  refine (HRAR.out w5 (HA.out.up HB5.out (Nat.le_refl _)) (by omega)).mono ?_
  rintro e w6 ⟨rfl, hb6⟩
  have HC6 := Lib.hid (HC5.out.up hb6 (Nat.le_refl _)); have HB6 := Lib.hid (HB5.out.trans (hb6.mono HB5.out.size)); clear hb6
  go_wp2_with fail
  refine (HRC.out w6 HC6.out (by omega) HB6.out).mono ?_
  rintro e w7 ⟨rfl, hb7⟩
  have HC7 := Lib.hid (HC6.out.up hb7 (Nat.le_refl _)); have HB7 := Lib.hid (HB6.out.trans (hb7.mono HB6.out.size)); clear hb7
  go_wp2_with fail
  refine (HRCR.out w7 HC7.out (by omega)).mono ?_
  rintro e w8 ⟨rfl, hb8⟩
  have HB8 := Lib.hid (HB7.out.trans (hb8.mono HB7.out.size)); clear hb8
  go_wp2_with fail
  go_ret
  refine ⟨?_, HB8.out⟩
  show Ending.returned (.bool (decide (0 < m) == decide (0 < nc))) = _
  rw [HZ.out]
end Go.Proofs.YtkookkhlgllneaaDoor
