/-
  Digests: the walk of slices.BinarySearchFunc at a list in order.
-/
import Derived.Test.YtdjknefbaclleaaGreatDoorGx
namespace Go.Proofs.YtdjknefbaclleaaGreatDoor
open Go.RowKit Go.Sort

theorem cmpBy_eq : ∀ (a b : List Int), (∀ x ∈ a, 0 ≤ x ∧ x < 256) → (∀ x ∈ b, 0 ≤ x ∧ x < 256) → a.length = b.length → (Lib.compareBytes (Lib.bytesOf a) (Lib.bytesOf b) = 0 ↔ a = b)
  | [], [], _, _, _ => ⟨fun _ => rfl, fun _ => rfl⟩
  | [], y :: b, _, _, h => by simp at h
  | x :: a, [], _, _, h => by simp at h
  | x :: a, y :: b, ha, hb, h => by
    have ih := cmpBy_eq a b (fun z hz => ha z (by simp [hz])) (fun z hz => hb z (by simp [hz])) (by simpa using h)
    have h1 := ha x (by simp); have h2 := hb y (by simp)
    have n1 : (UInt8.ofNat x.toNat).toNat = x.toNat := by simp; omega
    have n2 : (UInt8.ofNat y.toNat).toNat = y.toNat := by simp; omega
    have hlt : ((UInt8.ofNat x.toNat) < (UInt8.ofNat y.toNat)) ↔ x < y := by rw [UInt8.lt_iff_toNat_lt, n1, n2]; omega
    have hgt : ((UInt8.ofNat y.toNat) < (UInt8.ofNat x.toNat)) ↔ y < x := by rw [UInt8.lt_iff_toNat_lt, n1, n2]; omega
    show (if UInt8.ofNat x.toNat < UInt8.ofNat y.toNat then (-1 : Int) else if UInt8.ofNat y.toNat < UInt8.ofNat x.toNat then 1 else Lib.compareBytes (Lib.bytesOf a) (Lib.bytesOf b)) = 0 ↔ _
    by_cases c1 : x < y
    · rw [if_pos (hlt.2 c1)]
      exact ⟨fun h => by omega, fun h => by injection h with h _; omega⟩
    · rw [if_neg (fun h => c1 (hlt.1 h))]
      by_cases c2 : y < x
      · rw [if_pos (hgt.2 c2)]
        exact ⟨fun h => by omega, fun h => by injection h with h _; omega⟩
      · rw [if_neg (fun h => c2 (hgt.1 h)), ih]
        have hxy : x = y := by omega
        exact ⟨fun h => by rw [hxy, h], fun h => by injection h⟩
theorem cmpD_eq {a b : List Int} (ha : D32 a) (hb : D32 b) : decide (cmpD a b = 0) = decide (a = b) :=
  decide_eq_decide.2 (cmpBy_eq a b (fun x hx => ha.2 x hx) (fun x hx => hb.2 x hx) (by rw [ha.1, hb.1]))
theorem cmpD_lt {a b : List Int} (ha : D32 a) (hb : D32 b) : decide (cmpD a b < 0) = dls a b := cmpBy_lt a b (fun x hx => ha.2 x hx) (fun x hx => hb.2 x hx)
def LoD (P : List (List Int)) (d : List Int) (i : Nat) : Prop := ∀ m y, m < i → P[m]? = some y → dls y d = true
def HiD (P : List (List Int)) (d : List Int) (j : Nat) : Prop := ∀ m y, j ≤ m → P[m]? = some y → dls y d = false
theorem srt_at {P : List (List Int)} (h : srtD (P.map pr0)) {i j : Nat} (hij : i < j) {x y : List Int} (hx : P[i]? = some x) (hy : P[j]? = some y) : dls x y = true := by
  obtain ⟨hi, ex⟩ := List.getElem?_eq_some_iff.1 hx
  obtain ⟨hj, ey⟩ := List.getElem?_eq_some_iff.1 hy
  have := (List.pairwise_iff_getElem.1 h) i j (by simpa using hi) (by simpa using hj) hij
  simp only [List.getElem_map] at this
  rw [ex, ey] at this
  exact this
theorem LoD.up {P : List (List Int)} {d x : List Int} {h : Nat} (hs : srtD (P.map pr0)) (hx : P[h]? = some x) (hc : dls x d = true) : LoD P d (h + 1) := fun m y hm hy => by
  by_cases e : m = h
  · subst e; rw [hx] at hy; injection hy with hy; rw [← hy]; exact hc
  · exact dls_trans (srt_at hs (by omega) hy hx) hc
theorem HiD.dn {P : List (List Int)} {d x : List Int} {h : Nat} (hs : srtD (P.map pr0)) (hx : P[h]? = some x) (hc : dls x d = false) : HiD P d h := fun m y hm hy => by
  by_cases e : m = h
  · subst e; rw [hx] at hy; injection hy with hy; rw [← hy]; exact hc
  · rw [Bool.eq_false_iff]; intro hk
    rw [dls_trans (srt_at hs (by omega) hx hy) hk] at hc; cases hc
theorem bs_end {P : List (List Int)} {d x : List Int} {i : Nat} (hs : srtD (P.map pr0)) (lo : LoD P d i) (hi : HiD P d i) (hx : P[i]? = some x) : decide (x = d) = decide (d ∈ P) := decide_eq_decide.2
  ⟨fun h => by rw [← h]; exact List.mem_of_getElem? hx, fun h => by
    obtain ⟨m, hm⟩ := List.mem_iff_getElem?.1 h
    rcases Nat.lt_trichotomy m i with h1 | h1 | h1
    · have := lo m d h1 hm; rw [dls_irrefl] at this; cases this
    · subst h1; rw [hx] at hm; injection hm
    · have h2 := srt_at hs h1 hx hm
      rw [hi i x (Nat.le_refl _) hx] at h2; cases h2⟩
theorem bs_out {P : List (List Int)} {d : List Int} {n : Nat} (hn : P.length = n) (lo : LoD P d n) : decide (d ∈ P) = false := decide_eq_false fun h => by
  obtain ⟨m, hm⟩ := List.mem_iff_getElem?.1 h
  have := lo m d (by have := (List.getElem?_eq_some_iff.1 hm).1; omega) hm
  rw [dls_irrefl] at this; cases this
set_option maxRecDepth 100000 in
set_option maxHeartbeats 2000000 in
theorem bsD_any (sp : Option Addr) (n cap : Nat) (P : List (List Int)) (d : List Int) (w : World) (hP : DigsIn w w.heap.size sp n cap P) (hs : srtD (P.map pr0)) (hd : D32 d) (hn : n ≤ 100000000) :
    Calls Tryz.prog 16 #[.slice sp n cap, .agg (dv d), .func (.func 17) #[] #[]] w fun e w' => (∃ k : Nat, e = .returned (.tuple #[.int .i64 k, .bool (decide (d ∈ P))])) ∧ Below w.heap.size w w' := by
  have HP := Lib.hid hP; have HS := Lib.hid hs; have HD := Lib.hid hd
  have HIX := Lib.hid (info_d hd)
  have HNW := Lib.hid (show (w.alloc (.cells (dv d) 29)).rangeAt w.heap.size 0 (d.map (Value.int .u8)) from dv_rowC w d)
  have HBZ := Lib.hid ((Below.refl w.heap.size w).alloc (Nat.le_refl _) (.cells (dv d) 29))
  have HSZ := Lib.hid (show w.heap.size + 1 ≤ (w.alloc (.cells (dv d) 29)).heap.size by simp)
  clear hP hs hd
  go_enter Tryz.func16, Tryz.ntmps16
  go_wp2_with fail
  generalize World.alloc w (.cells (dv d) 29) = wz at *
  go_loopw [9, 10] (fun v9 v10 wr => ∃ i j : Nat, v9 = .int .i64 i ∧ v10 = .int .i64 j ∧ i ≤ j ∧ j ≤ n ∧ Hid (LoD P d i ∧ HiD P d j ∧ Below (w.heap.size + 1) wz wr)) (fun v9 v10 _ => (intOf v10).toNat - (intOf v9).toNat)
  case atStart => exact ⟨0, n, rfl, rfl, Nat.zero_le _, Nat.le_refl _, fun m y h => absurd h (by omega), fun m y h hy => absurd (List.getElem?_eq_some_iff.1 hy).1 (by have := HP.out.len; omega), Below.refl _ _⟩
  case round =>
    obtain ⟨i, j, rfl, rfl, hij, hjn, H⟩ := hrel
    have HLO := Lib.hid H.out.1; have HHI := Lib.hid H.out.2.1; have HB := Lib.hid H.out.2.2
    clear H
    by_cases hlt : i < j
    · have hd1 : decide ((i : Int) < (j : Int)) = true := by simp; omega
      obtain ⟨h, hm1, hm2⟩ : ∃ h : Nat, 2 * h ≤ i + j ∧ i + j ≤ 2 * h + 1 := ⟨(i + j) / 2, by omega, by omega⟩
      have q5 : ((i : Int) + (j : Int)) / 2 = (h : Int) := by omega
      have p1 : (0 : Int) ≤ (h : Int) := by omega
      have p2 : (h : Int) < (n : Int) := by omega
      obtain ⟨x, xb, xoff, hxk, hx32, rfl, hxb, hxc, hxr⟩ := digs_at HP.out (show h < n by omega)
      have HXK := Lib.hid hxk; have HX32 := Lib.hid hx32; have HXR := Lib.hid hxr; have HXB := Lib.hid hxb; have HIY := Lib.hid (info_d hx32)
      have hlt0 := cmpD_lt hx32 HD.out
      clear hxk hx32 hxr hxb
      have HCC := Lib.hid (fun w' => (show Calls Tryz.prog 17 #[.agg (x.map (Value.int .u8)).toArray, .agg (d.map (Value.int .u8)).toArray] w' fun e w'' => e = .returned (.int .i64 (cmpD x d)) ∧ Below w'.heap.size w' w'' from compare_any x d w' HX32.out HD.out))
      cases hc : dls x d
      · have hlt1 := hlt0
        rw [hc] at hlt1
        go_wp2_with fail
        refine wp_region_held_drew (S := fun w' => Below (w.heap.size + 1) wz w') (by kernel_rfl) HB.out.drew (fun hHeld => ?_)
        refine wpAnyH_take (i := 0) (oi := _) (v := ?v0n32) rfl (by kernel_rfl) (by kernel_rfl) (by kernel_rfl) (fun _ _ _ h => h) (Or.inl ⟨by rfl, ?hy0n32⟩) (by assumption) ?rest0n32
        case hy0n32 =>
          intro w' hSw
          go_simp
          try with_reducible rfl
        try simp only [Act.put, List.getElem_toArray, List.getElem_cons_succ, List.getElem_cons_zero, List.setIfInBounds_toArray, List.set_cons_zero, List.set_cons_succ]
        refine wpAnyH_take (i := 1) (oi := _) (v := ?v1n33) rfl (by kernel_rfl) (by kernel_rfl) (by kernel_rfl) (fun _ _ _ h => h) (Or.inl ⟨by rfl, ?hy1n33⟩) (by assumption) ?rest1n33
        case hy1n33 =>
          intro w' hSw
          go_simp
          try with_reducible rfl
        try simp only [Act.put, List.getElem_toArray, List.getElem_cons_succ, List.getElem_cons_zero, List.setIfInBounds_toArray, List.set_cons_zero, List.set_cons_succ]
        refine wpAnyH_take (i := 2) (oi := _) (v := ?v2n34) rfl (by kernel_rfl) (by kernel_rfl) (by kernel_rfl) (fun _ _ _ h => h) (Or.inl ⟨by rfl, ?hy2n34⟩) (by assumption) ?rest2n34
        case hy2n34 =>
          intro w' hSw
          go_simp
          try with_reducible rfl
        try simp only [Act.put, List.getElem_toArray, List.getElem_cons_succ, List.getElem_cons_zero, List.setIfInBounds_toArray, List.set_cons_zero, List.set_cons_succ]
        refine wpAnyH_take (i := 3) (oi := _) (v := ?v3n35) rfl (by kernel_rfl) (by kernel_rfl) (by kernel_rfl) (fun _ _ _ h => h) (Or.inl ⟨by rfl, ?hy3n35⟩) (by assumption) ?rest3n35
        case hy3n35 =>
          intro w' hSw
          go_simp
          try with_reducible rfl
        try simp only [Act.put, List.getElem_toArray, List.getElem_cons_succ, List.getElem_cons_zero, List.setIfInBounds_toArray, List.set_cons_zero, List.set_cons_succ]
        refine' wpAnyH_take (i := 4) (oi := _) (v := _) rfl (by kernel_rfl) (by kernel_rfl) (by kernel_rfl) (fun _ _ _ h => h) (yieldsIf_load_mid (by rfl) _ _ rfl _ _ rfl _ _ ?hS4n36 Tryz.underlying29 rfl HIY.out) (by assumption) ?rest4n36
        case hS4n36 =>
          intro w' hSw
          exact (range_belowG HXR.out (HBZ.out.trans (hSw.mono (Nat.le_succ _))) HXB.out)
        try simp only [Act.put, List.getElem_toArray, List.getElem_cons_succ, List.getElem_cons_zero, List.setIfInBounds_toArray, List.set_cons_zero, List.set_cons_succ]
        refine' wpAnyH_take (i := 5) (oi := _) (v := _) rfl (by kernel_rfl) (by kernel_rfl) (by kernel_rfl) (fun _ _ _ h => h) (yieldsIf_load_mid (by rfl) _ _ rfl _ _ rfl _ _ ?hS5n37 Tryz.underlying29 rfl HIX.out) (by assumption) ?rest5n37
        case hS5n37 =>
          intro w' hSw
          exact (range_belowG HNW.out hSw (Nat.lt_succ_self _))
        try simp only [Act.put, List.getElem_toArray, List.getElem_cons_succ, List.getElem_cons_zero, List.setIfInBounds_toArray, List.set_cons_zero, List.set_cons_succ]
        refine wpAnyH_ready (rs := [6]) (by kernel_rfl) (by simp) (AllReadyH.cons (o := _) rfl (fun K hK => ?_) AllReadyH.nil)
        go_simp
        with_reducible refine (HCC.out _).mono ?_
        rintro e wd ⟨rfl, hb3⟩
        have HBD := Lib.hid (HB.out.drew.trans (hb3.mono (Nat.le_trans HSZ.out HB.out.size)))
        go_wp2_with fail
        refine hK.out _ _ HBD.out (fun hHeld => ?_)
        clear hK K
        try simp only [Act.put, List.getElem_toArray, List.getElem_cons_succ, List.getElem_cons_zero, List.setIfInBounds_toArray, List.set_cons_zero, List.set_cons_succ]
        refine wpAnyH_take (i := 7) (oi := _) (v := ?v7n38) rfl (by kernel_rfl) (by kernel_rfl) (by kernel_rfl) (fun _ _ _ h => h) (Or.inl ⟨by rfl, ?hy7n38⟩) (by assumption) ?rest7n38
        case hy7n38 =>
          intro w' hSw
          go_simp
          try with_reducible rfl
        try simp only [Act.put, List.getElem_toArray, List.getElem_cons_succ, List.getElem_cons_zero, List.setIfInBounds_toArray, List.set_cons_zero, List.set_cons_succ]
        refine wpAnyH_done (by kernel_rfl) ?_ _
        clear hHeld
        go_wp2_with fail
        go_roundw
        case rel => exact ⟨i, h, rfl, rfl, by omega, by omega, HLO.out, HiD.dn HS.out HXK.out hc, HBD.out⟩
        case measure => simp [intOf]; omega
      · have hlt1 := hlt0
        rw [hc] at hlt1
        go_wp2_with fail
        refine wp_region_held_drew (S := fun w' => Below (w.heap.size + 1) wz w') (by kernel_rfl) HB.out.drew (fun hHeld => ?_)
        refine wpAnyH_take (i := 0) (oi := _) (v := ?v0n39) rfl (by kernel_rfl) (by kernel_rfl) (by kernel_rfl) (fun _ _ _ h => h) (Or.inl ⟨by rfl, ?hy0n39⟩) (by assumption) ?rest0n39
        case hy0n39 =>
          intro w' hSw
          go_simp
          try with_reducible rfl
        try simp only [Act.put, List.getElem_toArray, List.getElem_cons_succ, List.getElem_cons_zero, List.setIfInBounds_toArray, List.set_cons_zero, List.set_cons_succ]
        refine wpAnyH_take (i := 1) (oi := _) (v := ?v1n40) rfl (by kernel_rfl) (by kernel_rfl) (by kernel_rfl) (fun _ _ _ h => h) (Or.inl ⟨by rfl, ?hy1n40⟩) (by assumption) ?rest1n40
        case hy1n40 =>
          intro w' hSw
          go_simp
          try with_reducible rfl
        try simp only [Act.put, List.getElem_toArray, List.getElem_cons_succ, List.getElem_cons_zero, List.setIfInBounds_toArray, List.set_cons_zero, List.set_cons_succ]
        refine wpAnyH_take (i := 2) (oi := _) (v := ?v2n41) rfl (by kernel_rfl) (by kernel_rfl) (by kernel_rfl) (fun _ _ _ h => h) (Or.inl ⟨by rfl, ?hy2n41⟩) (by assumption) ?rest2n41
        case hy2n41 =>
          intro w' hSw
          go_simp
          try with_reducible rfl
        try simp only [Act.put, List.getElem_toArray, List.getElem_cons_succ, List.getElem_cons_zero, List.setIfInBounds_toArray, List.set_cons_zero, List.set_cons_succ]
        refine wpAnyH_take (i := 3) (oi := _) (v := ?v3n42) rfl (by kernel_rfl) (by kernel_rfl) (by kernel_rfl) (fun _ _ _ h => h) (Or.inl ⟨by rfl, ?hy3n42⟩) (by assumption) ?rest3n42
        case hy3n42 =>
          intro w' hSw
          go_simp
          try with_reducible rfl
        try simp only [Act.put, List.getElem_toArray, List.getElem_cons_succ, List.getElem_cons_zero, List.setIfInBounds_toArray, List.set_cons_zero, List.set_cons_succ]
        refine' wpAnyH_take (i := 4) (oi := _) (v := _) rfl (by kernel_rfl) (by kernel_rfl) (by kernel_rfl) (fun _ _ _ h => h) (yieldsIf_load_mid (by rfl) _ _ rfl _ _ rfl _ _ ?hS4n43 Tryz.underlying29 rfl HIY.out) (by assumption) ?rest4n43
        case hS4n43 =>
          intro w' hSw
          exact (range_belowG HXR.out (HBZ.out.trans (hSw.mono (Nat.le_succ _))) HXB.out)
        try simp only [Act.put, List.getElem_toArray, List.getElem_cons_succ, List.getElem_cons_zero, List.setIfInBounds_toArray, List.set_cons_zero, List.set_cons_succ]
        refine' wpAnyH_take (i := 5) (oi := _) (v := _) rfl (by kernel_rfl) (by kernel_rfl) (by kernel_rfl) (fun _ _ _ h => h) (yieldsIf_load_mid (by rfl) _ _ rfl _ _ rfl _ _ ?hS5n44 Tryz.underlying29 rfl HIX.out) (by assumption) ?rest5n44
        case hS5n44 =>
          intro w' hSw
          exact (range_belowG HNW.out hSw (Nat.lt_succ_self _))
        try simp only [Act.put, List.getElem_toArray, List.getElem_cons_succ, List.getElem_cons_zero, List.setIfInBounds_toArray, List.set_cons_zero, List.set_cons_succ]
        refine wpAnyH_ready (rs := [6]) (by kernel_rfl) (by simp) (AllReadyH.cons (o := _) rfl (fun K hK => ?_) AllReadyH.nil)
        go_simp
        with_reducible refine (HCC.out _).mono ?_
        rintro e wd ⟨rfl, hb3⟩
        have HBD := Lib.hid (HB.out.drew.trans (hb3.mono (Nat.le_trans HSZ.out HB.out.size)))
        go_wp2_with fail
        refine hK.out _ _ HBD.out (fun hHeld => ?_)
        clear hK K
        try simp only [Act.put, List.getElem_toArray, List.getElem_cons_succ, List.getElem_cons_zero, List.setIfInBounds_toArray, List.set_cons_zero, List.set_cons_succ]
        refine wpAnyH_take (i := 7) (oi := _) (v := ?v7n45) rfl (by kernel_rfl) (by kernel_rfl) (by kernel_rfl) (fun _ _ _ h => h) (Or.inl ⟨by rfl, ?hy7n45⟩) (by assumption) ?rest7n45
        case hy7n45 =>
          intro w' hSw
          go_simp
          try with_reducible rfl
        try simp only [Act.put, List.getElem_toArray, List.getElem_cons_succ, List.getElem_cons_zero, List.setIfInBounds_toArray, List.set_cons_zero, List.set_cons_succ]
        refine wpAnyH_done (by kernel_rfl) ?_ _
        clear hHeld
        go_wp2_with fail
        go_roundw
        case rel => exact ⟨h + 1, j, by go_num, rfl, by omega, hjn, LoD.up HS.out HXK.out hc, HHI.out, HBD.out⟩
        case measure => simp [intOf]; omega
    · have hd1 : decide ((i : Int) < (j : Int)) = false := by simp; omega
      obtain rfl : i = j := by omega
      by_cases hin : i < n
      · have hd2 : decide ((i : Int) < (n : Int)) = true := by simp; omega
        have p1 : (0 : Int) ≤ (i : Int) := by omega
        have p2 : (i : Int) < (n : Int) := by omega
        obtain ⟨x, xb, xoff, hxk, hx32, rfl, hxb, hxc, hxr⟩ := digs_at HP.out hin
        have HXR := Lib.hid hxr; have HXB := Lib.hid hxb; have HIY := Lib.hid (info_d hx32)
        have hz0 := cmpD_eq hx32 HD.out
        rw [bs_end HS.out HLO.out HHI.out hxk] at hz0
        have hz : (cmpD x d == 0) = decide (d ∈ P) := by rw [← hz0]; rfl
        have HCC := Lib.hid (fun w' => (show Calls Tryz.prog 17 #[.agg (x.map (Value.int .u8)).toArray, .agg (d.map (Value.int .u8)).toArray] w' fun e w'' => e = .returned (.int .i64 (cmpD x d)) ∧ Below w'.heap.size w' w'' from compare_any x d w' hx32 HD.out))
        clear hxk hx32 hxr hxb hz0
        go_wp2_with fail
        refine wp_region_held_drew (S := fun w' => Below (w.heap.size + 1) wz w') (by kernel_rfl) HB.out.drew (fun hHeld => ?_)
        refine wpAnyH_take (i := 0) (oi := _) (v := ?v0n1) rfl (by kernel_rfl) (by kernel_rfl) (by kernel_rfl) (fun _ _ _ h => h) (Or.inl ⟨by rfl, ?hy0n1⟩) (by assumption) ?rest0n1
        case hy0n1 =>
          intro w' hSw
          go_simp
          try with_reducible rfl
        try simp only [Act.put, List.getElem_toArray, List.getElem_cons_succ, List.getElem_cons_zero, List.setIfInBounds_toArray, List.set_cons_zero, List.set_cons_succ]
        refine wpAnyH_take (i := 1) (oi := _) (v := ?v1n2) rfl (by kernel_rfl) (by kernel_rfl) (by kernel_rfl) (fun _ _ _ h => h) (Or.inl ⟨by rfl, ?hy1n2⟩) (by assumption) ?rest1n2
        case hy1n2 =>
          intro w' hSw
          go_simp
          try with_reducible rfl
        try simp only [Act.put, List.getElem_toArray, List.getElem_cons_succ, List.getElem_cons_zero, List.setIfInBounds_toArray, List.set_cons_zero, List.set_cons_succ]
        refine wpAnyH_take (i := 2) (oi := _) (v := ?v2n3) rfl (by kernel_rfl) (by kernel_rfl) (by kernel_rfl) (fun _ _ _ h => h) (Or.inl ⟨by rfl, ?hy2n3⟩) (by assumption) ?rest2n3
        case hy2n3 =>
          intro w' hSw
          go_simp
          try with_reducible rfl
        try simp only [Act.put, List.getElem_toArray, List.getElem_cons_succ, List.getElem_cons_zero, List.setIfInBounds_toArray, List.set_cons_zero, List.set_cons_succ]
        refine wpAnyH_take (i := 3) (oi := _) (v := ?v3n4) rfl (by kernel_rfl) (by kernel_rfl) (by kernel_rfl) (fun _ _ _ h => h) (Or.inl ⟨by rfl, ?hy3n4⟩) (by assumption) ?rest3n4
        case hy3n4 =>
          intro w' hSw
          go_simp
          try with_reducible rfl
        try simp only [Act.put, List.getElem_toArray, List.getElem_cons_succ, List.getElem_cons_zero, List.setIfInBounds_toArray, List.set_cons_zero, List.set_cons_succ]
        refine wpAnyH_take (i := 4) (oi := _) (v := ?v4n5) rfl (by kernel_rfl) (by kernel_rfl) (by kernel_rfl) (fun _ _ _ h => h) (Or.inl ⟨by rfl, ?hy4n5⟩) (by assumption) ?rest4n5
        case hy4n5 =>
          intro w' hSw
          go_simp
          try with_reducible rfl
        try simp only [Act.put, List.getElem_toArray, List.getElem_cons_succ, List.getElem_cons_zero, List.setIfInBounds_toArray, List.set_cons_zero, List.set_cons_succ]
        refine wpAnyH_take (i := 5) (oi := _) (v := ?v5n6) rfl (by kernel_rfl) (by kernel_rfl) (by kernel_rfl) (fun _ _ _ h => h) (Or.inl ⟨by rfl, ?hy5n6⟩) (by assumption) ?rest5n6
        case hy5n6 =>
          intro w' hSw
          go_simp
          try with_reducible rfl
        try simp only [Act.put, List.getElem_toArray, List.getElem_cons_succ, List.getElem_cons_zero, List.setIfInBounds_toArray, List.set_cons_zero, List.set_cons_succ]
        refine wpAnyH_take (i := 6) (oi := _) (v := ?v6n7) rfl (by kernel_rfl) (by kernel_rfl) (by kernel_rfl) (fun _ _ _ h => h) (Or.inl ⟨by rfl, ?hy6n7⟩) (by assumption) ?rest6n7
        case hy6n7 =>
          intro w' hSw
          go_simp
          try with_reducible rfl
        try simp only [Act.put, List.getElem_toArray, List.getElem_cons_succ, List.getElem_cons_zero, List.setIfInBounds_toArray, List.set_cons_zero, List.set_cons_succ]
        refine wpAnyH_take (i := 7) (oi := _) (v := ?v7n8) rfl (by kernel_rfl) (by kernel_rfl) (by kernel_rfl) (fun _ _ _ h => h) (Or.inl ⟨by rfl, ?hy7n8⟩) (by assumption) ?rest7n8
        case hy7n8 =>
          intro w' hSw
          go_simp
          try with_reducible rfl
        try simp only [Act.put, List.getElem_toArray, List.getElem_cons_succ, List.getElem_cons_zero, List.setIfInBounds_toArray, List.set_cons_zero, List.set_cons_succ]
        refine wpAnyH_take (i := 8) (oi := _) (v := ?v8n9) rfl (by kernel_rfl) (by kernel_rfl) (by kernel_rfl) (fun _ _ _ h => h) (Or.inl ⟨by rfl, ?hy8n9⟩) (by assumption) ?rest8n9
        case hy8n9 =>
          intro w' hSw
          go_simp
          try with_reducible rfl
        try simp only [Act.put, List.getElem_toArray, List.getElem_cons_succ, List.getElem_cons_zero, List.setIfInBounds_toArray, List.set_cons_zero, List.set_cons_succ]
        refine' wpAnyH_take (i := 9) (oi := _) (v := _) rfl (by kernel_rfl) (by kernel_rfl) (by kernel_rfl) (fun _ _ _ h => h) (yieldsIf_load_mid (by rfl) _ _ rfl _ _ rfl _ _ ?hS9n10 Tryz.underlying29 rfl HIY.out) (by assumption) ?rest9n10
        case hS9n10 =>
          intro w' hSw
          exact (range_belowG HXR.out (HBZ.out.trans (hSw.mono (Nat.le_succ _))) HXB.out)
        try simp only [Act.put, List.getElem_toArray, List.getElem_cons_succ, List.getElem_cons_zero, List.setIfInBounds_toArray, List.set_cons_zero, List.set_cons_succ]
        refine' wpAnyH_take (i := 10) (oi := _) (v := _) rfl (by kernel_rfl) (by kernel_rfl) (by kernel_rfl) (fun _ _ _ h => h) (yieldsIf_load_mid (by rfl) _ _ rfl _ _ rfl _ _ ?hS10n11 Tryz.underlying29 rfl HIX.out) (by assumption) ?rest10n11
        case hS10n11 =>
          intro w' hSw
          exact (range_belowG HNW.out hSw (Nat.lt_succ_self _))
        try simp only [Act.put, List.getElem_toArray, List.getElem_cons_succ, List.getElem_cons_zero, List.setIfInBounds_toArray, List.set_cons_zero, List.set_cons_succ]
        refine wpAnyH_ready (rs := [11]) (by kernel_rfl) (by simp) (AllReadyH.cons (o := _) rfl (fun K hK => ?_) AllReadyH.nil)
        go_simp
        with_reducible refine (HCC.out _).mono ?_
        rintro e wd ⟨rfl, hb3⟩
        have HBD := Lib.hid (HB.out.drew.trans (hb3.mono (Nat.le_trans HSZ.out HB.out.size)))
        go_wp2_with fail
        refine hK.out _ _ HBD.out (fun hHeld => ?_)
        clear hK K
        try simp only [Act.put, List.getElem_toArray, List.getElem_cons_succ, List.getElem_cons_zero, List.setIfInBounds_toArray, List.set_cons_zero, List.set_cons_succ]
        refine wpAnyH_take (i := 12) (oi := _) (v := ?v12n12) rfl (by kernel_rfl) (by kernel_rfl) (by kernel_rfl) (fun _ _ _ h => h) (Or.inl ⟨by rfl, ?hy12n12⟩) (by assumption) ?rest12n12
        case hy12n12 =>
          intro w' hSw
          go_simp
          try with_reducible rfl
        try simp only [Act.put, List.getElem_toArray, List.getElem_cons_succ, List.getElem_cons_zero, List.setIfInBounds_toArray, List.set_cons_zero, List.set_cons_succ]
        refine wpAnyH_take (i := 13) (oi := _) (v := ?v13n13) rfl (by kernel_rfl) (by kernel_rfl) (by kernel_rfl) (fun _ _ _ h => h) (Or.inl ⟨by rfl, ?hy13n13⟩) (by assumption) ?rest13n13
        case hy13n13 =>
          intro w' hSw
          go_simp
          try with_reducible rfl
        try simp only [Act.put, List.getElem_toArray, List.getElem_cons_succ, List.getElem_cons_zero, List.setIfInBounds_toArray, List.set_cons_zero, List.set_cons_succ]
        refine wpAnyH_take (i := 14) (oi := _) (v := ?v14n14) rfl (by kernel_rfl) (by kernel_rfl) (by kernel_rfl) (fun _ _ _ h => h) (Or.inl ⟨by rfl, ?hy14n14⟩) (by assumption) ?rest14n14
        case hy14n14 =>
          intro w' hSw
          go_simp
          try with_reducible rfl
        try simp only [Act.put, List.getElem_toArray, List.getElem_cons_succ, List.getElem_cons_zero, List.setIfInBounds_toArray, List.set_cons_zero, List.set_cons_succ]
        refine wpAnyH_take (i := 15) (oi := _) (v := ?v15n15) rfl (by kernel_rfl) (by kernel_rfl) (by kernel_rfl) (fun _ _ _ h => h) (Or.inl ⟨by rfl, ?hy15n15⟩) (by assumption) ?rest15n15
        case hy15n15 =>
          intro w' hSw
          go_simp
          try with_reducible rfl
        try simp only [Act.put, List.getElem_toArray, List.getElem_cons_succ, List.getElem_cons_zero, List.setIfInBounds_toArray, List.set_cons_zero, List.set_cons_succ]
        refine wpAnyH_done (by kernel_rfl) ?_ _
        clear hHeld
        go_wp2_with fail
        go_ret2
        exact ⟨⟨i, rfl⟩, HBZ.out.trans (HBD.out.mono (Nat.le_succ _))⟩
      · obtain rfl : i = n := by omega
        have hd2 : decide ((i : Int) < (i : Int)) = false := by simp
        have ho := bs_out HP.out.len HLO.out
        go_wp2_with fail
        refine wp_region_held_drew (S := fun w' => Below (w.heap.size + 1) wz w') (by kernel_rfl) HB.out.drew (fun hHeld => ?_)
        refine wpAnyH_take (i := 0) (oi := _) (v := ?v0n16) rfl (by kernel_rfl) (by kernel_rfl) (by kernel_rfl) (fun _ _ _ h => h) (Or.inl ⟨by rfl, ?hy0n16⟩) (by assumption) ?rest0n16
        case hy0n16 =>
          intro w' hSw
          go_simp
          try with_reducible rfl
        try simp only [Act.put, List.getElem_toArray, List.getElem_cons_succ, List.getElem_cons_zero, List.setIfInBounds_toArray, List.set_cons_zero, List.set_cons_succ]
        refine wpAnyH_take (i := 1) (oi := _) (v := ?v1n17) rfl (by kernel_rfl) (by kernel_rfl) (by kernel_rfl) (fun _ _ _ h => h) (Or.inl ⟨by rfl, ?hy1n17⟩) (by assumption) ?rest1n17
        case hy1n17 =>
          intro w' hSw
          go_simp
          try with_reducible rfl
        try simp only [Act.put, List.getElem_toArray, List.getElem_cons_succ, List.getElem_cons_zero, List.setIfInBounds_toArray, List.set_cons_zero, List.set_cons_succ]
        refine wpAnyH_take (i := 2) (oi := _) (v := ?v2n18) rfl (by kernel_rfl) (by kernel_rfl) (by kernel_rfl) (fun _ _ _ h => h) (Or.inl ⟨by rfl, ?hy2n18⟩) (by assumption) ?rest2n18
        case hy2n18 =>
          intro w' hSw
          go_simp
          try with_reducible rfl
        try simp only [Act.put, List.getElem_toArray, List.getElem_cons_succ, List.getElem_cons_zero, List.setIfInBounds_toArray, List.set_cons_zero, List.set_cons_succ]
        refine wpAnyH_take (i := 3) (oi := _) (v := ?v3n19) rfl (by kernel_rfl) (by kernel_rfl) (by kernel_rfl) (fun _ _ _ h => h) (Or.inl ⟨by rfl, ?hy3n19⟩) (by assumption) ?rest3n19
        case hy3n19 =>
          intro w' hSw
          go_simp
          try with_reducible rfl
        try simp only [Act.put, List.getElem_toArray, List.getElem_cons_succ, List.getElem_cons_zero, List.setIfInBounds_toArray, List.set_cons_zero, List.set_cons_succ]
        refine wpAnyH_take (i := 4) (oi := _) (v := ?v4n20) rfl (by kernel_rfl) (by kernel_rfl) (by kernel_rfl) (fun _ _ _ h => h) (Or.inl ⟨by rfl, ?hy4n20⟩) (by assumption) ?rest4n20
        case hy4n20 =>
          intro w' hSw
          go_simp
          try with_reducible rfl
        try simp only [Act.put, List.getElem_toArray, List.getElem_cons_succ, List.getElem_cons_zero, List.setIfInBounds_toArray, List.set_cons_zero, List.set_cons_succ]
        refine wpAnyH_take (i := 5) (oi := _) (v := undef) rfl (by kernel_rfl) (by kernel_rfl) (by kernel_rfl) (fun _ _ _ h => h) (Or.inr ⟨by rfl, rfl⟩) (by assumption) ?rest5n21
        try simp only [Act.put, List.getElem_toArray, List.getElem_cons_succ, List.getElem_cons_zero, List.setIfInBounds_toArray, List.set_cons_zero, List.set_cons_succ]
        refine wpAnyH_take (i := 6) (oi := _) (v := undef) rfl (by kernel_rfl) (by kernel_rfl) (by kernel_rfl) (fun _ _ _ h => h) (Or.inr ⟨by rfl, rfl⟩) (by assumption) ?rest6n22
        try simp only [Act.put, List.getElem_toArray, List.getElem_cons_succ, List.getElem_cons_zero, List.setIfInBounds_toArray, List.set_cons_zero, List.set_cons_succ]
        refine wpAnyH_take (i := 7) (oi := _) (v := undef) rfl (by kernel_rfl) (by kernel_rfl) (by kernel_rfl) (fun _ _ _ h => h) (Or.inr ⟨by rfl, rfl⟩) (by assumption) ?rest7n23
        try simp only [Act.put, List.getElem_toArray, List.getElem_cons_succ, List.getElem_cons_zero, List.setIfInBounds_toArray, List.set_cons_zero, List.set_cons_succ]
        refine wpAnyH_take (i := 8) (oi := _) (v := undef) rfl (by kernel_rfl) (by kernel_rfl) (by kernel_rfl) (fun _ _ _ h => h) (Or.inr ⟨by rfl, rfl⟩) (by assumption) ?rest8n24
        try simp only [Act.put, List.getElem_toArray, List.getElem_cons_succ, List.getElem_cons_zero, List.setIfInBounds_toArray, List.set_cons_zero, List.set_cons_succ]
        refine wpAnyH_take (i := 9) (oi := _) (v := undef) rfl (by kernel_rfl) (by kernel_rfl) (by kernel_rfl) (fun _ _ _ h => h) (Or.inr ⟨by rfl, rfl⟩) (by assumption) ?rest9n25
        try simp only [Act.put, List.getElem_toArray, List.getElem_cons_succ, List.getElem_cons_zero, List.setIfInBounds_toArray, List.set_cons_zero, List.set_cons_succ]
        refine wpAnyH_take (i := 10) (oi := _) (v := undef) rfl (by kernel_rfl) (by kernel_rfl) (by kernel_rfl) (fun _ _ _ h => h) (Or.inr ⟨by rfl, rfl⟩) (by assumption) ?rest10n26
        try simp only [Act.put, List.getElem_toArray, List.getElem_cons_succ, List.getElem_cons_zero, List.setIfInBounds_toArray, List.set_cons_zero, List.set_cons_succ]
        refine wpAnyH_take (i := 11) (oi := _) (v := undef) rfl (by kernel_rfl) (by kernel_rfl) (by kernel_rfl) (fun _ _ _ h => h) (Or.inr ⟨by rfl, rfl⟩) (by assumption) ?rest11n27
        try simp only [Act.put, List.getElem_toArray, List.getElem_cons_succ, List.getElem_cons_zero, List.setIfInBounds_toArray, List.set_cons_zero, List.set_cons_succ]
        refine wpAnyH_take (i := 12) (oi := _) (v := undef) rfl (by kernel_rfl) (by kernel_rfl) (by kernel_rfl) (fun _ _ _ h => h) (Or.inr ⟨by rfl, rfl⟩) (by assumption) ?rest12n28
        try simp only [Act.put, List.getElem_toArray, List.getElem_cons_succ, List.getElem_cons_zero, List.setIfInBounds_toArray, List.set_cons_zero, List.set_cons_succ]
        refine wpAnyH_take (i := 13) (oi := _) (v := ?v13n29) rfl (by kernel_rfl) (by kernel_rfl) (by kernel_rfl) (fun _ _ _ h => h) (Or.inl ⟨by rfl, ?hy13n29⟩) (by assumption) ?rest13n29
        case hy13n29 =>
          intro w' hSw
          go_simp
          try with_reducible rfl
        try simp only [Act.put, List.getElem_toArray, List.getElem_cons_succ, List.getElem_cons_zero, List.setIfInBounds_toArray, List.set_cons_zero, List.set_cons_succ]
        refine wpAnyH_take (i := 14) (oi := _) (v := ?v14n30) rfl (by kernel_rfl) (by kernel_rfl) (by kernel_rfl) (fun _ _ _ h => h) (Or.inl ⟨by rfl, ?hy14n30⟩) (by assumption) ?rest14n30
        case hy14n30 =>
          intro w' hSw
          go_simp
          try with_reducible rfl
        try simp only [Act.put, List.getElem_toArray, List.getElem_cons_succ, List.getElem_cons_zero, List.setIfInBounds_toArray, List.set_cons_zero, List.set_cons_succ]
        refine wpAnyH_take (i := 15) (oi := _) (v := ?v15n31) rfl (by kernel_rfl) (by kernel_rfl) (by kernel_rfl) (fun _ _ _ h => h) (Or.inl ⟨by rfl, ?hy15n31⟩) (by assumption) ?rest15n31
        case hy15n31 =>
          intro w' hSw
          go_simp
          try with_reducible rfl
        try simp only [Act.put, List.getElem_toArray, List.getElem_cons_succ, List.getElem_cons_zero, List.setIfInBounds_toArray, List.set_cons_zero, List.set_cons_succ]
        refine wpAnyH_done (by kernel_rfl) ?_ _
        clear hHeld
        go_wp2_with fail
        go_ret2
        exact ⟨⟨i, by first | (rw [ho]; rfl) | simp [ho]⟩, HBZ.out.trans (HB.out.drew.mono (Nat.le_succ _))⟩
end Go.Proofs.YtdjknefbaclleaaGreatDoor
