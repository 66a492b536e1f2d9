/-
  The walk of the statement SnapshotMakes (conditions: digests of 32 bytes).
-/
import Derived.Test.YtkookkhlgllneaaDoorMakB
import Derived.Test.YtkookkhlgllneaaDoorLawSnA
namespace Go.Proofs.YtkookkhlgllneaaDoor
open Go.RowKit

theorem LookRes.uni2 {w w' : World} {s : List En} {p : ByteArray} {e : Ending} (h : LookRes w (fe s p) e w') : e = .returned (.tuple #[.agg ((dg? s p).map (Value.int .u8)).toArray, .bool (fe s p).isSome]) ∧ Below w.heap.size w w' := by
  unfold dg?
  cases k : fe s p with
  | none => rw [k] at h; exact h
  | some x => rw [k] at h; exact h
theorem makeL_short (l : List En) : (vE (makeL l)).1.length ≤ l.length := by
  unfold makeL
  split
  · split
    · simp [vE]
    · split
      · show (insL l).length ≤ _; rw [insL_length]; exact Nat.le_refl _
      · simp [vE]
  · simp [vE]
theorem makeL_code (l : List En) : (vE (makeL l)).2 = 0 ∧ vldE (vE (makeL l)).1 = true ∨ (vE (makeL l)).2 ≠ 0 := by
  cases h : makeL l with
  | error k => exact .inr (makeL_error h)
  | ok m => exact .inl ⟨rfl, makeL_vld h⟩
/-- a digest in a block of its own -/
def DgM (w : World) (b : Nat) (d : List Int) : Prop := w.heap[b]? = some (.cells (d.map (Value.int .u8)).toArray 28 (0, 0))
theorem DgM.up {w w' : World} {b : Nat} {d : List Int} (h : DgM w b d) (hb : Below w.heap.size w w') : DgM w' b d := (hb.block b (Array.getElem?_eq_some_iff.1 h).1).trans h
theorem DgM.row {w : World} {b : Nat} {d : List Int} (h : DgM w b d) : w.rangeAt b 0 (d.map (Value.int .u8)) := range_row (pre := []) (post := []) h (by simp) rfl
set_option maxRecDepth 100000 in
set_option maxHeartbeats 4000000 in
theorem snapshotMakes_any (spa : Option Addr) (na ca : Nat) (a : List En) (p : ByteArray) (w : World) (ha : EnsIn w w.heap.size spa na ca a) :
    Calls Tryd.prog 3 #[.slice spa na ca, .string p] w fun e w' => e = .returned (.bool true) ∧ Below w.heap.size w w' := by
  have HA := Lib.hid ha; clear ha
  by_cases h1 : na ≤ 200
  case neg =>
    have hf := light4_any spa na ca w
    rw [decide_eq_false h1] at hf
    have HF := Lib.hid hf; clear hf h1
    go_enter Tryd.func3, Tryd.ntmps3
    go_wp2_with fail
    refine HF.out.mono ?_
    rintro e w1 ⟨rfl, rfl⟩
    go_wp2_with fail
    go_ret
    exact ⟨rfl, Below.refl _ _⟩
  have hf := light4_any spa na ca w
  rw [decide_eq_true h1] at hf
  have HF := Lib.hid hf; clear hf
  have hln := HA.out.len
  have hs1 := makeL_short a
  have hcd := makeL_code a
  have HC1 := Lib.hid (fun w1 (h : EnsIn w1 w1.heap.size spa na ca a) => Make_any spa na ca a w1 h (by omega))
  have HC2 := Lib.hid (fun w1 (h : EnsIn w1 w1.heap.size spa na ca a) => refMake_any spa na ca a w1 h (by omega))
  have HK1 := Lib.hid (fun w1 (h : EnsIn w1 w1.heap.size spa na ca a) => (Lookup_any spa na ca a p w1 h (by omega)).mono fun e w' h => h.uni2)
  have HK2 := Lib.hid (fun w1 (h : EnsIn w1 w1.heap.size spa na ca a) => (rlook_any spa na ca a p w1 h (by omega)).mono fun e w' h => h.uni2)
  have HV1 := Lib.hid (fun w1 (h : EnsIn w1 w1.heap.size spa na ca a) => Valid_any spa na ca a w1 h (by omega))
  have HV2 := Lib.hid (fun w1 (h : EnsIn w1 w1.heap.size spa na ca a) => refValid_any spa na ca a w1 h (by omega))
  unfold ResR at HC1 HC2
  generalize vE (makeL a) = rc at *
  obtain ⟨m, rk⟩ := rc
  simp only at hs1 hcd HC1 HC2
  have HD32 := Lib.hid (dg?_ok HA.out.ok p)
  have heq := eqlD (dg? a p) (dg? a p) HD32.out.1 HD32.out.1
  rw [decide_eq_true rfl] at heq
  generalize dg? a p = D at *
  obtain ⟨c, hc⟩ : ∃ c, (fe a p).isSome = c := ⟨_, rfl⟩
  rw [hc] at HK1 HK2
  obtain ⟨cv, hcv⟩ : ∃ c, vldE a = c := ⟨_, rfl⟩
  rw [hcv] at HV1 HV2
  have HI : Hid ((Tryd.prog.info? 28).map (·.size) = some (D.map (Value.int .u8)).toArray.size) := by show _ = _; rw [List.size_toArray]; exact info_d HD32.out
  have HIs : Hid (32 = (D.map (Value.int .u8)).toArray.size) := by show _ = _; rw [List.size_toArray]; simpa using (show 32 = D.length from HD32.out.1.symm)
  have HCD := Lib.hid hcd
  have hm : m.length ≤ 1000 := by omega
  clear hln hs1 hc hcv hcd h1
  go_enter Tryd.func3, Tryd.ntmps3
  go_wp2_with fail
  refine HF.out.mono ?_
  rintro e w1 ⟨rfl, rfl⟩
  go_wp2_with fail
  refine (HC1.out w HA.out).mono ?_
  rintro e w1 ⟨sp1, n1, cp1, rfl, hx1, hb1⟩
  have HX1 := Lib.hid hx1; have HB1 := Lib.hid hb1; clear hx1 hb1
  go_wp2_with fail
  refine (HC2.out w1 (HA.out.up HB1.out (Nat.le_refl _))).mono ?_
  rintro e w2 ⟨sp2, n2, cp2, rfl, hx2, hb2⟩
  have HX12 := Lib.hid (HX1.out.up hb2 (Nat.le_refl _)); have HX22 := Lib.hid hx2
  have HB2 := Lib.hid (HB1.out.trans (hb2.mono HB1.out.size)); clear hx2 hb2
  go_wp2_with fail
  refine (HK1.out w2 (HA.out.up HB2.out (Nat.le_refl _))).mono ?_
  rintro e w3 ⟨rfl, hb3⟩
  have HX13 := Lib.hid (HX12.out.up hb3 (Nat.le_refl _)); have HX23 := Lib.hid (HX22.out.up hb3 (Nat.le_refl _))
  have HB3 := Lib.hid (HB2.out.trans (hb3.mono HB2.out.size)); clear hb3
  go_wp2_with (refine wpList_store_row rfl 28 _ _ rfl w3.heap.size _ rfl rfl 28 _ (heap_alloc_new w3 _) HI.out ((rfl : ((Array.replicate 32 (Value.int .u8 0))).size = 32).trans HIs.out) (dgA_one _) ?_; rw [setRow_new]; generalize hw4 : World.alloc w3 _ = w4; have hd4 : DgM w4 w3.heap.size D := (by rw [← hw4]; exact heap_alloc_new _ _); have hb4 : Below w3.heap.size w3 w4 := (by rw [← hw4]; exact (Below.refl _ _).alloc (Nat.le_refl _) _); have HD4 := Lib.hid hd4; have HX14 := Lib.hid (HX13.out.up hb4 (Nat.le_refl _)); have HX24 := Lib.hid (HX23.out.up hb4 (Nat.le_refl _)); have HB4 := Lib.hid (HB3.out.trans (hb4.mono HB3.out.size)); clear hw4 hd4 hb4)
  refine (HK2.out w4 (HA.out.up HB4.out (Nat.le_refl _))).mono ?_
  rintro e w5 ⟨rfl, hb5⟩
  have HD5 := Lib.hid (HD4.out.up hb5)
  have HX15 := Lib.hid (HX14.out.up hb5 (Nat.le_refl _)); have HX25 := Lib.hid (HX24.out.up hb5 (Nat.le_refl _))
  have HB5 := Lib.hid (HB4.out.trans (hb5.mono HB4.out.size)); clear hb5
  obtain ⟨g1, hg1⟩ : ∃ g, w3.heap.size = g := ⟨_, rfl⟩
  rw [hg1] at HD5 ⊢
  clear hg1
  go_wp2_with (refine wpList_store_row rfl 28 _ _ rfl w5.heap.size _ rfl rfl 28 _ (heap_alloc_new w5 _) HI.out ((rfl : ((Array.replicate 32 (Value.int .u8 0))).size = 32).trans HIs.out) (dgA_one _) ?_; rw [setRow_new]; generalize hw6 : World.alloc w5 _ = w6; have hd6 : DgM w6 w5.heap.size D := (by rw [← hw6]; exact heap_alloc_new _ _); have hb6 : Below w5.heap.size w5 w6 := (by rw [← hw6]; exact (Below.refl _ _).alloc (Nat.le_refl _) _); have HE6 := Lib.hid hd6; have HD6 := Lib.hid (HD5.out.up hb6); have HX16 := Lib.hid (HX15.out.up hb6 (Nat.le_refl _)); have HX26 := Lib.hid (HX25.out.up hb6 (Nat.le_refl _)); have HB6 := Lib.hid (HB5.out.trans (hb6.mono HB5.out.size)); clear hw6 hd6 hb6)
  obtain ⟨g2, hg2⟩ : ∃ g, w5.heap.size = g := ⟨_, rfl⟩
  rw [hg2] at HE6 ⊢
  clear hg2
  refine (awake4_any w6).mono ?_
  rintro e w7 ⟨rfl, hb7⟩
  have HD7 := Lib.hid (HD6.out.up hb7); have HE7 := Lib.hid (HE6.out.up hb7)
  have HX17 := Lib.hid (HX16.out.up hb7 (Nat.le_refl _)); have HX27 := Lib.hid (HX26.out.up hb7 (Nat.le_refl _))
  have HB7 := Lib.hid (HB6.out.trans (hb7.mono HB6.out.size)); clear hb7
  go_wp2_with fail
  refine (HV1.out w7 (HA.out.up HB7.out (Nat.le_refl _))).mono ?_
  rintro e w8 ⟨rfl, hb8⟩
  have HD8 := Lib.hid (HD7.out.up hb8); have HE8 := Lib.hid (HE7.out.up hb8)
  have HX18 := Lib.hid (HX17.out.up hb8 (Nat.le_refl _)); have HX28 := Lib.hid (HX27.out.up hb8 (Nat.le_refl _))
  have HB8 := Lib.hid (HB7.out.trans (hb8.mono HB7.out.size)); clear hb8
  go_wp2_with fail
  refine (HV2.out w8 (HA.out.up HB8.out (Nat.le_refl _))).mono ?_
  rintro e w9 ⟨rfl, hb9⟩
  have HD9 := Lib.hid (HD8.out.up hb9); have HE9 := Lib.hid (HE8.out.up hb9)
  have HX19 := Lib.hid (HX18.out.up hb9 (Nat.le_refl _)); have HX29 := Lib.hid (HX28.out.up hb9 (Nat.le_refl _))
  have HB9 := Lib.hid (HB8.out.trans (hb9.mono HB8.out.size)); clear hb9
  have hq1 := sameE_any sp1 n1 cp1 m sp2 n2 cp2 m w9 HX19.out HX29.out (by have := HX19.out.len; omega)
  rw [decide_eq_true rfl] at hq1
  have HQ1 := Lib.hid hq1; clear hq1
  have hcc : (cv == cv) = true := by simp
  have hkk : (rk == rk) = true := by simp
  go_wp2_with fail
  refine HQ1.out.mono ?_
  rintro e w10 ⟨rfl, hb10⟩
  have HD10 := Lib.hid (HD9.out.up hb10); have HE10 := Lib.hid (HE9.out.up hb10)
  have HX110 := Lib.hid (HX19.out.up hb10 (Nat.le_refl _))
  have HB10 := Lib.hid (HB9.out.trans (hb10.mono HB9.out.size)); clear hb10
  have hc2 : (c == c) = true := by simp
  have hcd := HCD.out
  clear HCD hcc hkk
  rcases hcd with ⟨rfl, hvl⟩ | hnz
  · have hvv := Valid_any sp1 n1 cp1 m w10 HX110.out (by have := HX110.out.len; omega)
    rw [hvl] at hvv
    have HVV := Lib.hid hvv; clear hvv hvl
    go_wp2_with (first
      | (refine wpList_load_mid_g (by rfl) 28 _ rfl g1 0 rfl _ _ HD10.out.row Tryd.underlying28 rfl (info_d HD32.out) ?_)
      | (refine wpList_load_mid_g (by rfl) 28 _ rfl g2 0 rfl _ _ HE10.out.row Tryd.underlying28 rfl (info_d HD32.out) ?_))
    refine HVV.out.mono ?_
    rintro e w12 ⟨rfl, hb12⟩
    have HB12 := Lib.hid (HB10.out.trans (hb12.mono HB10.out.size)); clear hb12
    go_wp2_with fail
    go_ret
    exact ⟨rfl, HB12.out⟩
  · have hnz1 : (rk == 0) = false := by simpa using hnz
    go_wp2_with (first
      | (refine wpList_load_mid_g (by rfl) 28 _ rfl g1 0 rfl _ _ HD10.out.row Tryd.underlying28 rfl (info_d HD32.out) ?_)
      | (refine wpList_load_mid_g (by rfl) 28 _ rfl g2 0 rfl _ _ HE10.out.row Tryd.underlying28 rfl (info_d HD32.out) ?_))
    go_ret
    exact ⟨rfl, HB10.out⟩
end Go.Proofs.YtkookkhlgllneaaDoor
