/-
  VersionKeys: the walk of the law.
-/
import Derived.Test.YtceeilojcifgeaaGreatDoorVthr
import Derived.Test.YtceeilojcifgeaaGreatDoorVorF
import Derived.Deep.RegionHeld3
namespace Go.Proofs.YtceeilojcifgeaaGreatDoor
open Go.RowKit

theorem less_lx : ∀ a b : BL, Op.bytesLess a b = decide (lx a b < 0)
  | [], [] => rfl
  | [], _ :: _ => rfl
  | _ :: _, [] => rfl
  | a :: x, b :: y => by
    unfold Op.bytesLess
    rcases u8_tri a b with h | rfl | h
    · rw [lx_cons_lt h]; simp [h]
    · rw [lx_cons, less_lx x y]; simp [UInt8.lt_irrefl]
    · rw [lx_cons_gt h]
      have h2 : ¬ a < b := by rw [UInt8.lt_iff_toNat_lt] at *; omega
      have h3 : ¬ a = b := by rintro rfl; exact UInt8.lt_irrefl _ h
      simp [h2, h3]
theorem bs_toL (l : BL) : (bs l).toList = l := by rw [Lib.toList_data, bs_data]
theorem less_bs (a b : BL) : Op.bytesLess (bs a).toList (bs b).toList = decide (lx a b < 0) := by rw [bs_toL, bs_toL]; exact less_lx a b
theorem eq_bs (a b : BL) : ((bs a).toList == (bs b).toList) = (lx a b == 0) := by
  rw [bs_toL, bs_toL, Bool.eq_iff_iff, beq_iff_eq, beq_iff_eq]; exact (lx_zero_iff a b).symm
set_option maxRecDepth 100000 in
set_option maxHeartbeats 4000000 in
theorem versionKeys_any (n : Int) (sp : Option Addr) (m cap : Nat) (l : List ByteArray) (st : Option Addr) (mt ct : Nat) (lt : List Int) (w : World) (hn : -9223372036854775808 ≤ n ∧ n ≤ 9223372036854775807) (hl : StrA w sp m cap l) (ht : IntA w st mt ct lt) :
    Calls Tryz.prog 4 #[.int .i64 n, .slice sp m cap, .slice st mt ct] w fun e w' => e = .returned (.bool true) ∧ Below w.heap.size w w' := by
  have hm := hl.short.1
  have HSC := Lib.hid (fun w => scheme_any n w)
  have HR := Lib.hid (schN_rng n)
  have HTH := Lib.hid (three_any (schN n) HR.out sp m cap l st mt ct lt w hl ht)
  clear hl ht
  by_cases h10 : m ≤ 10
  · have hd : decide ((m : Int) > 10) = false := by simp; omega
    generalize schN n = s at *
    go_enter Tryz.func4, Tryz.ntmps4
    go_wp2_with fail
    refine (HSC.out _).mono ?_
    rintro e w' ⟨rfl, rfl⟩
    go_wp2_with fail
    refine HTH.out.mono ?_
    rintro e w1 ⟨a, b, c, rfl, hv, b1⟩
    have B1 := Lib.hid b1; have HV := Lib.hid hv
    clear b1 hv
    go_wp2_with fail
    generalize hw0 : World.alloc w1 _ = w0
    have HC := Lib.hid (show ∀ i (hi : i < 3), w0.cell? ⟨w1.heap.size, i, none⟩ = some ((#[Value.string a, Value.string b, Value.string c] : Array Value)[i]'hi) by
      rw [← hw0]; intro i hi; rw [cell_of_row _ w1.heap.size i _ _ _ (heap_alloc_new w1 _)]; simp [hi])
    have HW0 := Lib.hid (show Below w.heap.size w w0 by rw [← hw0]; exact B1.out.alloc B1.out.size _)
    have HW0L := Lib.hid (show w1.heap.size < w0.heap.size by rw [← hw0]; simp)
    clear hw0
    obtain ⟨la, rfl⟩ := bs_eq a
    obtain ⟨lb, rfl⟩ := bs_eq b
    obtain ⟨lc, rfl⟩ := bs_eq c
    obtain ⟨va, vb, vc⟩ := HV.out
    rw [bs_data] at va vb vc
    have hsch : schB s = true := by rcases HR.out with rfl | rfl | rfl <;> rfl
    obtain ⟨ka, _, ea, _⟩ := val_keyO hsch va
    obtain ⟨kb, _, eb, _⟩ := val_keyO hsch vb
    obtain ⟨kc, _, ec, _⟩ := val_keyO hsch vc
    have K0 := Lib.hid (fun w => key_any s la w)
    have K1 := Lib.hid (fun w => key_any s lb w)
    have K2 := Lib.hid (fun w => key_any s lc w)
    have O0 := Lib.hid (fun w => rOrd_any s la lb w hsch va vb)
    have O1 := Lib.hid (fun w => rOrd_any s lb lc w hsch vb vc)
    have O2 := Lib.hid (fun w => rOrd_any s lc la w hsch vc va)
    rw [ea] at K0 O0 O2; rw [eb] at K1 O0 O1; rw [ec] at K2 O1 O2
    clear va vb vc hsch ea eb ec
    generalize bs la = a at *
    generalize bs lb = b at *
    generalize bs lc = c at *
    go_loopw [9] (fun i wr => ∃ k : Nat, i = .int .i64 k ∧ k ≤ 3 ∧ Hid (Below w.heap.size w wr ∧ Below w0.heap.size w0 wr)) (fun i _ => 3 - (intOf i).toNat)
    case atStart => exact ⟨0, rfl, by omega, HW0.out, Below.refl _ _⟩
    case round =>
    obtain ⟨k, rfl, hk, HB⟩ := hrel
    rcases (by omega : k = 0 ∨ k = 1 ∨ k = 2 ∨ k = 3) with rfl | rfl | rfl | rfl
    · have h0 : wr.cell? ⟨w1.heap.size, 0, none⟩ = some (.string a) := (HB.out.2.cell (p := ⟨w1.heap.size, 0, none⟩) HW0L.out).trans (HC.out 0 (by omega))
      have h1 : wr.cell? ⟨w1.heap.size, 1, none⟩ = some (.string b) := (HB.out.2.cell (p := ⟨w1.heap.size, 1, none⟩) HW0L.out).trans (HC.out 1 (by omega))
      go_wp2_with fail
      refine (K0.out _).mono ?_
      rintro e w2 ⟨rfl, b2⟩
      have h1' : w2.cell? ⟨w1.heap.size, 1, none⟩ = some (.string b) := (b2.cell (p := ⟨w1.heap.size, 1, none⟩) (Nat.lt_of_lt_of_le HW0L.out HB.out.2.size)).trans h1
      have h0' : w2.cell? ⟨w1.heap.size, 0, none⟩ = some (.string a) := (b2.cell (p := ⟨w1.heap.size, 0, none⟩) (Nat.lt_of_lt_of_le HW0L.out HB.out.2.size)).trans h0
      have hz2 := Nat.lt_of_lt_of_le (Nat.lt_of_lt_of_le HW0L.out HB.out.2.size) b2.size
      have HZ2 := Lib.hid hz2
      have B2 := Lib.hid b2; clear b2 h0 h1 hz2
      go_wp2_with fail
      refine (K1.out _).mono ?_
      rintro e w3 ⟨rfl, b3⟩
      have h1 : w3.cell? ⟨w1.heap.size, 1, none⟩ = some (.string b) := (b3.cell (p := ⟨w1.heap.size, 1, none⟩) HZ2.out).trans h1'
      have h0 : w3.cell? ⟨w1.heap.size, 0, none⟩ = some (.string a) := (b3.cell (p := ⟨w1.heap.size, 0, none⟩) HZ2.out).trans h0'
      have HZ3 := Lib.hid (Nat.lt_of_lt_of_le HZ2.out b3.size)
      have B3 := Lib.hid b3; clear b3 h0' h1'
      go_wp2_with fail
      have HKEEP := Lib.hid (fun (w' : World) (hb : Below w3.heap.size w3 w') => And.intro ((hb.cell (p := ⟨w1.heap.size, 0, none⟩) HZ3.out).trans h0) ((hb.cell (p := ⟨w1.heap.size, 1, none⟩) HZ3.out).trans h1))
      clear h0 h1
      have hO := O0.out
      have q1 : IntKind.i64.wrap (1 : Int) = 1 := by decide
      have q2 : IntKind.i64.wrap ((0 : Int) + 1) = 1 := by decide
      have q3 : Int.tmod 1 3 = 1 := by decide
      have q4 : IntKind.i64.wrap (1 : Int) = 1 := by decide
      have q5 : IntKind.i64.wrap (Int.tmod 1 3) = 1 := by decide
      have q6 : (1 : Int) % 3 = 1 := by decide
      have q7 : IntKind.i64.wrap ((1 : Int) % 3) = 1 := by decide
      go_region_held3 (fun w' => w'.cell? ⟨w1.heap.size, 0, none⟩ = some (.string a) ∧ w'.cell? ⟨w1.heap.size, 1, none⟩ = some (.string b)) (first | exact HKEEP.out _ (Below.refl _ _) | exact HKEEP.out _ (Below.refl _ _).drew | exact HKEEP.out _ ((Below.refl _ _).drew.trans (by assumption))) ((go_at_call 13; (with_reducible refine (hO _).mono ?_); rintro e w4 ⟨rfl, hb4⟩))
      all_goals
        have B4 := Lib.hid hb4; clear hb4 hO HKEEP q1 q2 q3 q4 q5 q6 q7
        have f1 := less_bs ka kb
        have f2 := eq_bs ka kb
        go_wp2_with fail
        go_roundw
        case rel => exact ⟨1, by go_num, by omega, nextB (nextB (nextB HB.out.1 B2.out) B3.out) ((Below.refl _ _).drew.trans B4.out), nextB (nextB (nextB HB.out.2 B2.out) B3.out) ((Below.refl _ _).drew.trans B4.out)⟩
        case measure => simp [intOf]
    · have h0 : wr.cell? ⟨w1.heap.size, 1, none⟩ = some (.string b) := (HB.out.2.cell (p := ⟨w1.heap.size, 1, none⟩) HW0L.out).trans (HC.out 1 (by omega))
      have h1 : wr.cell? ⟨w1.heap.size, 2, none⟩ = some (.string c) := (HB.out.2.cell (p := ⟨w1.heap.size, 2, none⟩) HW0L.out).trans (HC.out 2 (by omega))
      go_wp2_with fail
      refine (K1.out _).mono ?_
      rintro e w2 ⟨rfl, b2⟩
      have h1' : w2.cell? ⟨w1.heap.size, 2, none⟩ = some (.string c) := (b2.cell (p := ⟨w1.heap.size, 2, none⟩) (Nat.lt_of_lt_of_le HW0L.out HB.out.2.size)).trans h1
      have h0' : w2.cell? ⟨w1.heap.size, 1, none⟩ = some (.string b) := (b2.cell (p := ⟨w1.heap.size, 1, none⟩) (Nat.lt_of_lt_of_le HW0L.out HB.out.2.size)).trans h0
      have hz2 := Nat.lt_of_lt_of_le (Nat.lt_of_lt_of_le HW0L.out HB.out.2.size) b2.size
      have HZ2 := Lib.hid hz2
      have B2 := Lib.hid b2; clear b2 h0 h1 hz2
      go_wp2_with fail
      refine (K2.out _).mono ?_
      rintro e w3 ⟨rfl, b3⟩
      have h1 : w3.cell? ⟨w1.heap.size, 2, none⟩ = some (.string c) := (b3.cell (p := ⟨w1.heap.size, 2, none⟩) HZ2.out).trans h1'
      have h0 : w3.cell? ⟨w1.heap.size, 1, none⟩ = some (.string b) := (b3.cell (p := ⟨w1.heap.size, 1, none⟩) HZ2.out).trans h0'
      have HZ3 := Lib.hid (Nat.lt_of_lt_of_le HZ2.out b3.size)
      have B3 := Lib.hid b3; clear b3 h0' h1'
      go_wp2_with fail
      have HKEEP := Lib.hid (fun (w' : World) (hb : Below w3.heap.size w3 w') => And.intro ((hb.cell (p := ⟨w1.heap.size, 1, none⟩) HZ3.out).trans h0) ((hb.cell (p := ⟨w1.heap.size, 2, none⟩) HZ3.out).trans h1))
      clear h0 h1
      have hO := O1.out
      have q1 : IntKind.i64.wrap (2 : Int) = 2 := by decide
      have q2 : IntKind.i64.wrap ((1 : Int) + 1) = 2 := by decide
      have q3 : Int.tmod 2 3 = 2 := by decide
      have q4 : IntKind.i64.wrap (2 : Int) = 2 := by decide
      have q5 : IntKind.i64.wrap (Int.tmod 2 3) = 2 := by decide
      have q6 : (2 : Int) % 3 = 2 := by decide
      have q7 : IntKind.i64.wrap ((2 : Int) % 3) = 2 := by decide
      go_region_held3 (fun w' => w'.cell? ⟨w1.heap.size, 1, none⟩ = some (.string b) ∧ w'.cell? ⟨w1.heap.size, 2, none⟩ = some (.string c)) (first | exact HKEEP.out _ (Below.refl _ _) | exact HKEEP.out _ (Below.refl _ _).drew | exact HKEEP.out _ ((Below.refl _ _).drew.trans (by assumption))) ((go_at_call 13; (with_reducible refine (hO _).mono ?_); rintro e w4 ⟨rfl, hb4⟩))
      all_goals
        have B4 := Lib.hid hb4; clear hb4 hO HKEEP q1 q2 q3 q4 q5 q6 q7
        have f1 := less_bs kb kc
        have f2 := eq_bs kb kc
        go_wp2_with fail
        go_roundw
        case rel => exact ⟨2, by go_num, by omega, nextB (nextB (nextB HB.out.1 B2.out) B3.out) ((Below.refl _ _).drew.trans B4.out), nextB (nextB (nextB HB.out.2 B2.out) B3.out) ((Below.refl _ _).drew.trans B4.out)⟩
        case measure => simp [intOf]
    · have h0 : wr.cell? ⟨w1.heap.size, 2, none⟩ = some (.string c) := (HB.out.2.cell (p := ⟨w1.heap.size, 2, none⟩) HW0L.out).trans (HC.out 2 (by omega))
      have h1 : wr.cell? ⟨w1.heap.size, 0, none⟩ = some (.string a) := (HB.out.2.cell (p := ⟨w1.heap.size, 0, none⟩) HW0L.out).trans (HC.out 0 (by omega))
      go_wp2_with fail
      refine (K2.out _).mono ?_
      rintro e w2 ⟨rfl, b2⟩
      have h1' : w2.cell? ⟨w1.heap.size, 0, none⟩ = some (.string a) := (b2.cell (p := ⟨w1.heap.size, 0, none⟩) (Nat.lt_of_lt_of_le HW0L.out HB.out.2.size)).trans h1
      have h0' : w2.cell? ⟨w1.heap.size, 2, none⟩ = some (.string c) := (b2.cell (p := ⟨w1.heap.size, 2, none⟩) (Nat.lt_of_lt_of_le HW0L.out HB.out.2.size)).trans h0
      have hz2 := Nat.lt_of_lt_of_le (Nat.lt_of_lt_of_le HW0L.out HB.out.2.size) b2.size
      have HZ2 := Lib.hid hz2
      have B2 := Lib.hid b2; clear b2 h0 h1 hz2
      go_wp2_with fail
      refine (K0.out _).mono ?_
      rintro e w3 ⟨rfl, b3⟩
      have h1 : w3.cell? ⟨w1.heap.size, 0, none⟩ = some (.string a) := (b3.cell (p := ⟨w1.heap.size, 0, none⟩) HZ2.out).trans h1'
      have h0 : w3.cell? ⟨w1.heap.size, 2, none⟩ = some (.string c) := (b3.cell (p := ⟨w1.heap.size, 2, none⟩) HZ2.out).trans h0'
      have HZ3 := Lib.hid (Nat.lt_of_lt_of_le HZ2.out b3.size)
      have B3 := Lib.hid b3; clear b3 h0' h1'
      go_wp2_with fail
      have HKEEP := Lib.hid (fun (w' : World) (hb : Below w3.heap.size w3 w') => And.intro ((hb.cell (p := ⟨w1.heap.size, 2, none⟩) HZ3.out).trans h0) ((hb.cell (p := ⟨w1.heap.size, 0, none⟩) HZ3.out).trans h1))
      clear h0 h1
      have hO := O2.out
      have q1 : IntKind.i64.wrap (3 : Int) = 3 := by decide
      have q2 : IntKind.i64.wrap ((2 : Int) + 1) = 3 := by decide
      have q3 : Int.tmod 3 3 = 0 := by decide
      have q4 : IntKind.i64.wrap (0 : Int) = 0 := by decide
      have q5 : IntKind.i64.wrap (Int.tmod 3 3) = 0 := by decide
      have q6 : (3 : Int) % 3 = 0 := by decide
      have q7 : IntKind.i64.wrap ((3 : Int) % 3) = 0 := by decide
      go_region_held3 (fun w' => w'.cell? ⟨w1.heap.size, 2, none⟩ = some (.string c) ∧ w'.cell? ⟨w1.heap.size, 0, none⟩ = some (.string a)) (first | exact HKEEP.out _ (Below.refl _ _) | exact HKEEP.out _ (Below.refl _ _).drew | exact HKEEP.out _ ((Below.refl _ _).drew.trans (by assumption))) ((go_at_call 13; (with_reducible refine (hO _).mono ?_); rintro e w4 ⟨rfl, hb4⟩))
      all_goals
        have B4 := Lib.hid hb4; clear hb4 hO HKEEP q1 q2 q3 q4 q5 q6 q7
        have f1 := less_bs kc ka
        have f2 := eq_bs kc ka
        go_wp2_with fail
        go_roundw
        case rel => exact ⟨3, by go_num, by omega, nextB (nextB (nextB HB.out.1 B2.out) B3.out) ((Below.refl _ _).drew.trans B4.out), nextB (nextB (nextB HB.out.2 B2.out) B3.out) ((Below.refl _ _).drew.trans B4.out)⟩
        case measure => simp [intOf]
    · go_wp2_with fail
      refine (awake6_any _).mono ?_
      rintro e w1 ⟨rfl, b1⟩
      have B1 := Lib.hid b1; clear b1
      go_wp2_with fail
      go_ret
      exact ⟨rfl, nextB HB.out.1 B1.out⟩
  · have hd : decide ((m : Int) > 10) = true := by simp; omega
    go_enter Tryz.func4, Tryz.ntmps4
    go_wp2_with fail
    go_ret
    exact ⟨rfl, Below.refl _ _⟩
end Go.Proofs.YtceeilojcifgeaaGreatDoor
