/-
  Versions: the walks of under, Key, Valid, strings.Compare and Compare (for all strings).
-/
import Derived.Test.YtceeilojcifgeaaGreatDoorVerQ
import Derived.Laws.BytesString
namespace Go.Proofs.YtceeilojcifgeaaGreatDoor
open Go.RowKit

theorem ret2V {a b c d : Value} (h : a = b) (h2 : c = d) : Ending.returned (.tuple #[a, c]) = .returned (.tuple #[b, d]) := by rw [h, h2]
theorem cells_of_ownV {w : World} {base e : Nat} {v : Value} {l : List UInt8} (h : w.ownsRow base e 1 v l.length (Lib.byteCells l)) :
    (v = .slice none 0 0 ∧ l = []) ∨ ∃ g cap, v = .slice (some ⟨g, 0, none⟩) l.length cap ∧ base ≤ g ∧ g < w.heap.size ∧ ∀ j (hj : j < l.length), w.cell? ⟨g, j, none⟩ = some (.int .u8 (l[j].toNat : Int)) := by
  obtain ⟨_, ⟨rfl, h0⟩ | ⟨g, cap, cur, rfl, hb, hg, hle, _, hsz, htk⟩⟩ := h
  · exact .inl ⟨rfl, List.eq_nil_of_length_eq_zero h0⟩
  · refine .inr ⟨g, cap, rfl, hb, (Array.getElem?_eq_some_iff.1 hg).1, fun j hj => ?_⟩
    rw [cell_of_row w g j cur e _ hg]
    have h1 : (cur.toList.take (l.length * 1))[j]? = some (.int .u8 (l[j].toNat : Int)) := by rw [htk]; simp [Lib.byteCells, List.getElem?_eq_getElem hj]
    rw [List.getElem?_take, if_pos (by omega)] at h1
    simpa using h1
theorem run_string_ownV {w : World} {base e : Nat} {v : Value} {l : List UInt8} (h : w.ownsRow base e 1 v l.length (Lib.byteCells l)) :
    (convert 50 9 v).run Tryz.prog w = .ok (.string (bs l)) w := by
  rcases cells_of_ownV h with ⟨rfl, rfl⟩ | ⟨g, cap, rfl, _, _, hc⟩
  · rw [run_convert_bytes_string w 50 9 5 none 0 0 Tryz.underlying50 Tryz.underlying5 Tryz.underlying9]
    kernel_rfl
  · exact run_convert_bytes_back w 50 9 5 _ cap l Tryz.underlying50 Tryz.underlying5 Tryz.underlying9 (fun j hj => by rw [Addr.add_mid, Nat.zero_add]; exact hc j hj)
/-- whether there is such a scheme -/
def schB (s : Int) : Bool := (s == 1) || (s == 2) || (s == 3)
/-- a version's key; none: it is no version -/
def keyO (s : Int) (l : BL) : Option BL := if 64 < l.length then none else if s = 1 then semS l else if s = 2 then debS l else if s = 3 then dotS l [] else none
/-- what Key answers -/
def keyR (s : Int) (l : BL) : BL × Int := if schB s = true then (match keyO s l with
  | none => ([], 1)
  | some k => (k, 0)) else ([], 14)
set_option maxHeartbeats 400000 in
theorem under_1 (b : Nat) (w : World) : Calls Tryz.prog 24 #[.pointer (some ⟨b, 0, none⟩), .int .i64 1] w fun e w' => e = .returned (.func (.func 38) #[.pointer (some ⟨b, 0, none⟩)] #[]) ∧ w = w' := by
  go_enter Tryz.func24, Tryz.ntmps24
  go_wp2_with fail
  go_ret
  exact ⟨rfl, rfl⟩
set_option maxHeartbeats 400000 in
theorem under_2 (b : Nat) (w : World) : Calls Tryz.prog 24 #[.pointer (some ⟨b, 0, none⟩), .int .i64 2] w fun e w' => e = .returned (.func (.func 39) #[.pointer (some ⟨b, 0, none⟩)] #[]) ∧ w = w' := by
  go_enter Tryz.func24, Tryz.ntmps24
  go_wp2_with fail
  go_ret
  exact ⟨rfl, rfl⟩
set_option maxHeartbeats 400000 in
theorem under_3 (b : Nat) (w : World) : Calls Tryz.prog 24 #[.pointer (some ⟨b, 0, none⟩), .int .i64 3] w fun e w' => e = .returned (.func (.func 40) #[.pointer (some ⟨b, 0, none⟩)] #[]) ∧ w = w' := by
  go_enter Tryz.func24, Tryz.ntmps24
  go_wp2_with fail
  go_ret
  exact ⟨rfl, rfl⟩
set_option maxHeartbeats 400000 in
theorem under_no (s : Int) (hs : schB s = false) (b : Nat) (w : World) : Calls Tryz.prog 24 #[.pointer (some ⟨b, 0, none⟩), .int .i64 s] w fun e w' => e = .returned .nilFunc ∧ w = w' := by
  have h1 : (s == 1) = false := by unfold schB at hs; cases h : s == 1 <;> simp_all
  have h2 : (s == 2) = false := by unfold schB at hs; cases h : s == 2 <;> simp_all
  have h3 : (s == 3) = false := by unfold schB at hs; cases h : s == 3 <;> simp_all
  clear hs
  go_enter Tryz.func24, Tryz.ntmps24
  go_wp2_with fail
  go_ret
  exact ⟨rfl, rfl⟩
theorem isNil_fn (n b : Nat) (w : World) : (binOp .eql 27 (.func (.func n) #[.pointer (some ⟨b, 0, none⟩)] #[]) .nilFunc).run Tryz.prog w = .ok (.bool false) w := by kernel_rfl
theorem isNil_nil (w : World) : (binOp .eql 27 .nilFunc .nilFunc).run Tryz.prog w = .ok (.bool true) w := by kernel_rfl
/-- the reading as Key makes it -/
theorem Rd.made (w : World) (r : ByteArray) : Rd w.heap.size (w.alloc (.cells #[.string r, .slice none 0 0] 54)) w.heap.size r [] :=
  ⟨Nat.le_refl _, none, 0, heap_alloc_new w _, World.ownsRow_nil _ _ _ _⟩
set_option maxRecDepth 100000 in
set_option maxHeartbeats 1000000 in
theorem key_1 (l : BL) (w : World) :
    Calls Tryz.prog 12 #[.int .i64 1, .string (bs l)] w fun e w' => e = .returned (.tuple #[.string (bs (keyR 1 l).1), .int .i64 (keyR 1 l).2]) ∧ Below w.heap.size w w' := by
  have HU := Lib.hid (fun w' => under_1 w.heap.size w')
  have hnf := isNil_fn 38 w.heap.size (w.alloc (.cells #[.string (bs l), .slice none 0 0] 54))
  have hsz : (bs l).size = l.length := bs_size l
  have HA := Lib.hid ((Below.refl w.heap.size w).alloc (Nat.le_refl _) (.cells #[.string (bs l), .slice none 0 0] 54))
  by_cases hl : l.length ≤ 64
  · have HP := Lib.hid (semver_any w.heap.size w.heap.size l _ (Rd.made w (bs l)) hl)
    have hd : decide (((bs l).size : Int) > 64) = false := by simp; omega
    obtain ⟨o, ho⟩ : ∃ o, semS l = o := ⟨_, rfl⟩
    rw [ho] at HP
    have HK := Lib.hid (show keyO 1 l = o by rw [← ho]; unfold keyO; rw [if_neg (by omega)]; rfl)
    clear ho hsz hl
    generalize bs l = sl at *
    cases o with
    | none =>
      have HX := Lib.hid (show keyR 1 l = ([], 1) by unfold keyR; rw [HK.out]; rfl)
      rw [HX.out]
      go_enter Tryz.func12, Tryz.ntmps12
      go_wp2_with fail
      refine (HU.out _).mono ?_
      rintro e w' ⟨rfl, rfl⟩
      go_wp2_with fail
      refine HP.out.mono ?_
      rintro e w1 ⟨rfl, b1, -⟩
      have B1 := Lib.hid b1; clear b1
      go_wp2_with fail
      go_ret2
      exact ⟨rfl, HA.out.trans B1.out⟩
    | some k =>
      have HX := Lib.hid (show keyR 1 l = (k, 0) by unfold keyR; rw [HK.out]; rfl)
      rw [HX.out]
      dsimp only
      obtain ⟨sk, hsk⟩ : ∃ sk, bs k = sk := ⟨_, rfl⟩
      rw [hsk]
      have HSK := Lib.hid hsk; clear hsk
      go_enter Tryz.func12, Tryz.ntmps12
      go_wp2_with fail
      refine (HU.out _).mono ?_
      rintro e w' ⟨rfl, rfl⟩
      go_wp2_with fail
      refine HP.out.mono ?_
      rintro e w1 ⟨rfl, b1, r1⟩
      obtain ⟨r', -, sp, cap, hrow, hown⟩ := r1 k rfl
      have h1 : w1.cell? ⟨w.heap.size, 1, none⟩ = some (.slice sp k.length cap) := by rw [cell_of_row w1 _ 1 _ _ _ hrow]; rfl
      have hcv := run_string_ownV hown
      have B1 := Lib.hid b1; clear b1 r1 hrow hown
      rw [HSK.out] at hcv
      generalize k.length = n at *
      go_wp2_with fail
      go_ret2
      exact ⟨rfl, HA.out.trans B1.out⟩
  · have hd : decide (((bs l).size : Int) > 64) = true := by simp; omega
    have HX := Lib.hid (show keyR 1 l = ([], 1) by unfold keyR keyO; rw [if_pos (by omega : 64 < l.length)]; rfl)
    rw [HX.out]
    clear hsz hl
    generalize bs l = sl at *
    go_enter Tryz.func12, Tryz.ntmps12
    go_wp2_with fail
    refine (HU.out _).mono ?_
    rintro e w' ⟨rfl, rfl⟩
    go_wp2_with fail
    go_ret2
    exact ⟨rfl, HA.out⟩
set_option maxRecDepth 100000 in
set_option maxHeartbeats 1000000 in
theorem key_2 (l : BL) (w : World) :
    Calls Tryz.prog 12 #[.int .i64 2, .string (bs l)] w fun e w' => e = .returned (.tuple #[.string (bs (keyR 2 l).1), .int .i64 (keyR 2 l).2]) ∧ Below w.heap.size w w' := by
  have HU := Lib.hid (fun w' => under_2 w.heap.size w')
  have hnf := isNil_fn 39 w.heap.size (w.alloc (.cells #[.string (bs l), .slice none 0 0] 54))
  have hsz : (bs l).size = l.length := bs_size l
  have HA := Lib.hid ((Below.refl w.heap.size w).alloc (Nat.le_refl _) (.cells #[.string (bs l), .slice none 0 0] 54))
  by_cases hl : l.length ≤ 64
  · have HP := Lib.hid (debian_any w.heap.size w.heap.size l _ (Rd.made w (bs l)) hl)
    have hd : decide (((bs l).size : Int) > 64) = false := by simp; omega
    obtain ⟨o, ho⟩ : ∃ o, debS l = o := ⟨_, rfl⟩
    rw [ho] at HP
    have HK := Lib.hid (show keyO 2 l = o by rw [← ho]; unfold keyO; rw [if_neg (by omega)]; rfl)
    clear ho hsz hl
    generalize bs l = sl at *
    cases o with
    | none =>
      have HX := Lib.hid (show keyR 2 l = ([], 1) by unfold keyR; rw [HK.out]; rfl)
      rw [HX.out]
      go_enter Tryz.func12, Tryz.ntmps12
      go_wp2_with fail
      refine (HU.out _).mono ?_
      rintro e w' ⟨rfl, rfl⟩
      go_wp2_with fail
      refine HP.out.mono ?_
      rintro e w1 ⟨rfl, b1, -⟩
      have B1 := Lib.hid b1; clear b1
      go_wp2_with fail
      go_ret2
      exact ⟨rfl, HA.out.trans B1.out⟩
    | some k =>
      have HX := Lib.hid (show keyR 2 l = (k, 0) by unfold keyR; rw [HK.out]; rfl)
      rw [HX.out]
      dsimp only
      obtain ⟨sk, hsk⟩ : ∃ sk, bs k = sk := ⟨_, rfl⟩
      rw [hsk]
      have HSK := Lib.hid hsk; clear hsk
      go_enter Tryz.func12, Tryz.ntmps12
      go_wp2_with fail
      refine (HU.out _).mono ?_
      rintro e w' ⟨rfl, rfl⟩
      go_wp2_with fail
      refine HP.out.mono ?_
      rintro e w1 ⟨rfl, b1, r1⟩
      obtain ⟨r', -, sp, cap, hrow, hown⟩ := r1 k rfl
      have h1 : w1.cell? ⟨w.heap.size, 1, none⟩ = some (.slice sp k.length cap) := by rw [cell_of_row w1 _ 1 _ _ _ hrow]; rfl
      have hcv := run_string_ownV hown
      have B1 := Lib.hid b1; clear b1 r1 hrow hown
      rw [HSK.out] at hcv
      generalize k.length = n at *
      go_wp2_with fail
      go_ret2
      exact ⟨rfl, HA.out.trans B1.out⟩
  · have hd : decide (((bs l).size : Int) > 64) = true := by simp; omega
    have HX := Lib.hid (show keyR 2 l = ([], 1) by unfold keyR keyO; rw [if_pos (by omega : 64 < l.length)]; rfl)
    rw [HX.out]
    clear hsz hl
    generalize bs l = sl at *
    go_enter Tryz.func12, Tryz.ntmps12
    go_wp2_with fail
    refine (HU.out _).mono ?_
    rintro e w' ⟨rfl, rfl⟩
    go_wp2_with fail
    go_ret2
    exact ⟨rfl, HA.out⟩
set_option maxRecDepth 100000 in
set_option maxHeartbeats 1000000 in
theorem key_3 (l : BL) (w : World) :
    Calls Tryz.prog 12 #[.int .i64 3, .string (bs l)] w fun e w' => e = .returned (.tuple #[.string (bs (keyR 3 l).1), .int .i64 (keyR 3 l).2]) ∧ Below w.heap.size w w' := by
  have HU := Lib.hid (fun w' => under_3 w.heap.size w')
  have hnf := isNil_fn 40 w.heap.size (w.alloc (.cells #[.string (bs l), .slice none 0 0] 54))
  have hsz : (bs l).size = l.length := bs_size l
  have HA := Lib.hid ((Below.refl w.heap.size w).alloc (Nat.le_refl _) (.cells #[.string (bs l), .slice none 0 0] 54))
  by_cases hl : l.length ≤ 64
  · have HP := Lib.hid (dotted_any w.heap.size w.heap.size l [] _ (Rd.made w (bs l)) hl (by simp; omega))
    have hd : decide (((bs l).size : Int) > 64) = false := by simp; omega
    obtain ⟨o, ho⟩ : ∃ o, dotS l [] = o := ⟨_, rfl⟩
    rw [ho] at HP
    have HK := Lib.hid (show keyO 3 l = o by rw [← ho]; unfold keyO; rw [if_neg (by omega)]; rfl)
    clear ho hsz hl
    generalize bs l = sl at *
    cases o with
    | none =>
      have HX := Lib.hid (show keyR 3 l = ([], 1) by unfold keyR; rw [HK.out]; rfl)
      rw [HX.out]
      go_enter Tryz.func12, Tryz.ntmps12
      go_wp2_with fail
      refine (HU.out _).mono ?_
      rintro e w' ⟨rfl, rfl⟩
      go_wp2_with fail
      refine HP.out.mono ?_
      rintro e w1 ⟨rfl, b1, -⟩
      have B1 := Lib.hid b1; clear b1
      go_wp2_with fail
      go_ret2
      exact ⟨rfl, HA.out.trans B1.out⟩
    | some k =>
      have HX := Lib.hid (show keyR 3 l = (k, 0) by unfold keyR; rw [HK.out]; rfl)
      rw [HX.out]
      dsimp only
      obtain ⟨sk, hsk⟩ : ∃ sk, bs k = sk := ⟨_, rfl⟩
      rw [hsk]
      have HSK := Lib.hid hsk; clear hsk
      go_enter Tryz.func12, Tryz.ntmps12
      go_wp2_with fail
      refine (HU.out _).mono ?_
      rintro e w' ⟨rfl, rfl⟩
      go_wp2_with fail
      refine HP.out.mono ?_
      rintro e w1 ⟨rfl, b1, r1⟩
      obtain ⟨r', -, sp, cap, hrow, hown⟩ := r1 k rfl
      have h1 : w1.cell? ⟨w.heap.size, 1, none⟩ = some (.slice sp k.length cap) := by rw [cell_of_row w1 _ 1 _ _ _ hrow]; rfl
      have hcv := run_string_ownV hown
      have B1 := Lib.hid b1; clear b1 r1 hrow hown
      rw [HSK.out] at hcv
      generalize k.length = n at *
      go_wp2_with fail
      go_ret2
      exact ⟨rfl, HA.out.trans B1.out⟩
  · have hd : decide (((bs l).size : Int) > 64) = true := by simp; omega
    have HX := Lib.hid (show keyR 3 l = ([], 1) by unfold keyR keyO; rw [if_pos (by omega : 64 < l.length)]; rfl)
    rw [HX.out]
    clear hsz hl
    generalize bs l = sl at *
    go_enter Tryz.func12, Tryz.ntmps12
    go_wp2_with fail
    refine (HU.out _).mono ?_
    rintro e w' ⟨rfl, rfl⟩
    go_wp2_with fail
    go_ret2
    exact ⟨rfl, HA.out⟩
set_option maxRecDepth 100000 in
set_option maxHeartbeats 1000000 in
theorem key_no (s : Int) (hs : schB s = false) (l : BL) (w : World) :
    Calls Tryz.prog 12 #[.int .i64 s, .string (bs l)] w fun e w' => e = .returned (.tuple #[.string (bs (keyR s l).1), .int .i64 (keyR s l).2]) ∧ Below w.heap.size w w' := by
  have HU := Lib.hid (fun w' => under_no s hs w.heap.size w')
  have hnn := isNil_nil (w.alloc (.cells #[.string (bs l), .slice none 0 0] 54))
  have HA := Lib.hid ((Below.refl w.heap.size w).alloc (Nat.le_refl _) (.cells #[.string (bs l), .slice none 0 0] 54))
  have HX := Lib.hid (show keyR s l = ([], 14) by unfold keyR; rw [hs]; rfl)
  rw [HX.out]
  clear hs
  generalize bs l = sl at *
  go_enter Tryz.func12, Tryz.ntmps12
  go_wp2_with fail
  refine (HU.out _).mono ?_
  rintro e w' ⟨rfl, rfl⟩
  go_wp2_with fail
  go_ret2
  exact ⟨rfl, HA.out⟩
theorem sch_cases {s : Int} (h : schB s = true) : s = 1 ∨ s = 2 ∨ s = 3 := by
  unfold schB at h; simpa [or_assoc] using h
theorem key_any (s : Int) (l : BL) (w : World) :
    Calls Tryz.prog 12 #[.int .i64 s, .string (bs l)] w fun e w' => e = .returned (.tuple #[.string (bs (keyR s l).1), .int .i64 (keyR s l).2]) ∧ Below w.heap.size w w' := by
  cases h : schB s
  · exact key_no s h l w
  · rcases sch_cases h with rfl | rfl | rfl
    · exact key_1 l w
    · exact key_2 l w
    · exact key_3 l w
theorem keyR_rng (s : Int) (l : BL) : (keyR s l).2 = 0 ∨ (keyR s l).2 = 1 ∨ (keyR s l).2 = 14 := by
  unfold keyR; split
  · split
    · exact .inr (.inl rfl)
    · exact .inl rfl
  · exact .inr (.inr rfl)
/-- what Valid answers -/
def valB (s : Int) (l : BL) : Bool := (keyR s l).2 == 0
set_option maxRecDepth 100000 in
set_option maxHeartbeats 400000 in
theorem cmpStr_any (a b : ByteArray) (w : World) :
    Calls Tryz.prog 33 #[.string a, .string b] w fun e w' => e = .returned (.int .i64 (Lib.compareBytes a.data.toList b.data.toList)) ∧ w = w' := by
  go_enter Tryz.func33, Tryz.ntmps33
  go_wp2
  rw [run_callFunc_extern Tryz.func47 (by kernel_rfl) (by kernel_rfl) (by kernel_rfl) (e := Extern.BytealgCompare.compare) (by kernel_rfl), Lib.run_compareString]
  simp only [Result.andThen]
  rw [Oper.upon_value]
  go_wp2
  go_ret
  exact ⟨rfl, rfl⟩
set_option maxRecDepth 100000 in
set_option maxHeartbeats 400000 in
theorem strCompare_any (a b : BL) (w : World) :
    Calls Tryz.prog 21 #[.string (bs a), .string (bs b)] w fun e w' => e = .returned (.int .i64 (lx a b)) ∧ w = w' := by
  have HC := Lib.hid (fun w => cmpStr_any (bs a) (bs b) w)
  rw [bs_data, bs_data, lx_eq] at HC
  go_enter Tryz.func21, Tryz.ntmps21
  go_wp2_with fail
  refine (HC.out _).mono ?_
  rintro e w' ⟨rfl, rfl⟩
  go_wp2_with fail
  go_ret
  exact ⟨rfl, rfl⟩
/-- what Compare answers -/
def cmpR (s : Int) (a b : BL) : Int × Int := if (keyR s a).2 ≠ 0 then (0, (keyR s a).2) else if (keyR s b).2 ≠ 0 then (0, (keyR s b).2) else (lx (keyR s a).1 (keyR s b).1, 0)
set_option maxRecDepth 100000 in
set_option maxHeartbeats 1000000 in
theorem compare_anyV (s : Int) (a b : BL) (w : World) :
    Calls Tryz.prog 8 #[.int .i64 s, .string (bs a), .string (bs b)] w fun e w' => e = .returned (.tuple #[.int .i64 (cmpR s a b).1, .int .i64 (cmpR s a b).2]) ∧ Below w.heap.size w w' := by
  have HK1 := Lib.hid (fun w => key_any s a w)
  have HK2 := Lib.hid (fun w => key_any s b w)
  have HC := Lib.hid (fun w => strCompare_any (keyR s a).1 (keyR s b).1 w)
  have HX : Hid (cmpR s a b = if (keyR s a).2 ≠ 0 then (0, (keyR s a).2) else if (keyR s b).2 ≠ 0 then (0, (keyR s b).2) else (lx (keyR s a).1 (keyR s b).1, 0)) := rfl
  have hr1 := keyR_rng s a; have hr2 := keyR_rng s b
  generalize bs (keyR s a).1 = ka at *
  generalize bs (keyR s b).1 = kb at *
  generalize lx (keyR s a).1 (keyR s b).1 = x at *
  generalize bs a = sa at *
  generalize bs b = sb at *
  generalize (keyR s a).2 = n at *
  generalize (keyR s b).2 = m at *
  rcases hr1 with rfl | rfl | rfl
  · rcases hr2 with rfl | rfl | rfl
    · have HY := Lib.hid (show cmpR s a b = (x, 0) from HX.out)
      rw [HY.out]
      go_enter Tryz.func8, Tryz.ntmps8
      go_wp2_with fail
      refine (HK1.out _).mono ?_
      rintro e w1 ⟨rfl, b1⟩
      have B1 := Lib.hid b1; clear b1
      go_wp2_with fail
      refine (HK2.out _).mono ?_
      rintro e w2 ⟨rfl, b2⟩
      have B2 := Lib.hid (b2.mono B1.out.size); clear b2
      go_wp2_with fail
      refine (HC.out _).mono ?_
      rintro e w' ⟨rfl, rfl⟩
      go_wp2_with fail
      go_ret2
      exact ⟨rfl, B1.out.trans B2.out⟩
    all_goals
      first
        | (have HY := Lib.hid (show cmpR s a b = (0, 1) from HX.out))
        | (have HY := Lib.hid (show cmpR s a b = (0, 14) from HX.out))
      rw [HY.out]
      go_enter Tryz.func8, Tryz.ntmps8
      go_wp2_with fail
      refine (HK1.out _).mono ?_
      rintro e w1 ⟨rfl, b1⟩
      have B1 := Lib.hid b1; clear b1
      go_wp2_with fail
      refine (HK2.out _).mono ?_
      rintro e w2 ⟨rfl, b2⟩
      have B2 := Lib.hid (b2.mono B1.out.size); clear b2
      go_wp2_with fail
      go_ret2
      exact ⟨rfl, B1.out.trans B2.out⟩
  all_goals
    first
      | (have HY := Lib.hid (show cmpR s a b = (0, 1) from HX.out))
      | (have HY := Lib.hid (show cmpR s a b = (0, 14) from HX.out))
    rw [HY.out]
    go_enter Tryz.func8, Tryz.ntmps8
    go_wp2_with fail
    refine (HK1.out _).mono ?_
    rintro e w1 ⟨rfl, b1⟩
    have B1 := Lib.hid b1; clear b1
    go_wp2_with fail
    go_ret2
    exact ⟨rfl, B1.out⟩
end Go.Proofs.YtceeilojcifgeaaGreatDoor
