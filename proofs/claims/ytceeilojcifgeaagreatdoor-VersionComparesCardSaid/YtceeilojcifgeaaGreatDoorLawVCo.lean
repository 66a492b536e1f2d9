/-
  VersionCompares: the walk of the law.
-/
import Derived.Test.YtceeilojcifgeaaGreatDoorLawVVa
import Derived.Test.YtceeilojcifgeaaGreatDoorVorF
namespace Go.Proofs.YtceeilojcifgeaaGreatDoor
open Go.RowKit

theorem two_cell (w : World) (x y : Int) (t : TypeId) (k : Nat) (hk : k < 2) : ∃ z, (w.alloc (.cells #[.int .i64 x, .int .i64 y] t)).cell? ⟨w.heap.size, k, none⟩ = some (.int .i64 z) := by
  rw [cell_of_row _ w.heap.size k _ _ _ (heap_alloc_new w _)]
  rcases (by omega : k = 0 ∨ k = 1) with rfl | rfl
  · exact ⟨x, rfl⟩
  · exact ⟨y, rfl⟩
set_option maxRecDepth 100000 in
set_option maxHeartbeats 1000000 in
theorem versionCompares_any (n : Int) (s1 s2 : ByteArray) (w : World) (hn : -9223372036854775808 ≤ n ∧ n ≤ 9223372036854775807) :
    Calls Tryz.prog 3 #[.int .i64 n, .string s1, .string s2] w fun e w' => e = .returned (.bool true) ∧ Below w.heap.size w w' := by
  obtain ⟨a, rfl⟩ := bs_eq s1
  obtain ⟨b, rfl⟩ := bs_eq s2
  have hsa := bs_size a; have hsb := bs_size b
  by_cases ha : a.length ≤ 300
  · have d1 : decide (((bs a).size : Int) > 300) = false := by simp; omega
    by_cases hb : b.length ≤ 300
    · have d2 : decide (((bs b).size : Int) > 300) = false := by simp; omega
      have HA := Lib.hid (fun w => awake6_any w)
      have HC := Lib.hid (fun s w => compare_anyV s a b w)
      have HR := Lib.hid (fun s w => rCompare_any s a b w (by omega) (by omega))
      have HSC := Lib.hid (fun w => scheme_any n w)
      clear hsa hsb ha hb
      generalize bs a = sa at *
      generalize bs b = sb at *
      generalize schN n = sc at *
      go_enter Tryz.func3, Tryz.ntmps3
      go_wp2_with fail
      refine (HSC.out _).mono ?_
      rintro e w' ⟨rfl, rfl⟩
      go_wp2_with fail
      generalize hw0 : World.alloc w _ = w0
      have HCE := Lib.hid (show ∀ k, k < 2 → ∃ z, w0.cell? ⟨w.heap.size, k, none⟩ = some (.int .i64 z) by rw [← hw0]; exact two_cell w n sc _)
      have HB0 := Lib.hid (show Below w.heap.size w w0 by rw [← hw0]; exact (Below.refl _ _).alloc (Nat.le_refl _) _)
      have HLT := Lib.hid (show w.heap.size < w0.heap.size by rw [← hw0]; simp)
      clear hw0
      go_loopw [26] (fun i wr => ∃ k : Nat, i = .int .i64 k ∧ k ≤ 2 ∧ Hid (Below w.heap.size w wr ∧ Below w0.heap.size w0 wr)) (fun i _ => 2 - (intOf i).toNat)
      case atStart => exact ⟨0, rfl, by omega, HB0.out, Below.refl _ _⟩
      case round =>
        obtain ⟨k, rfl, hk, HB⟩ := hrel
        by_cases hlt : k < 2
        · have hd : decide ((k : Int) < 2) = true := by simp; omega
          have p0 : (0 : Int) ≤ (k : Int) := by omega
          have p1 : (k : Int) < 2 := by omega
          obtain ⟨z, hz⟩ := HCE.out k hlt
          have hcell : wr.cell? ⟨w.heap.size, k, none⟩ = some (.int .i64 z) := (HB.out.2.cell (p := ⟨w.heap.size, k, none⟩) HLT.out).trans hz
          have hcell2 : wr.cell? ⟨w.heap.size, 0 + k, none⟩ = some (.int .i64 z) := by rw [Nat.zero_add]; exact hcell
          have HC1 := Lib.hid (fun w => HC.out z w)
          have HR1 := Lib.hid (fun w => HR.out z w)
          clear hz
          generalize (cmpR z a b).1 = x at *
          generalize (cmpR z a b).2 = y at *
          go_wp2_with fail
          refine (HC1.out _).mono ?_
          rintro e w1 ⟨rfl, b1⟩
          have B1 := Lib.hid b1; clear b1
          go_wp2_with fail
          refine (HR1.out _).mono ?_
          rintro e w2 ⟨rfl, b2⟩
          have B2 := Lib.hid b2; clear b2
          go_wp2_with fail
          go_roundw
          case rel => exact ⟨k + 1, by go_num, by omega, nextB (nextB HB.out.1 B1.out) B2.out, nextB (nextB HB.out.2 B1.out) B2.out⟩
          case measure => simp [intOf]; omega
        · obtain rfl : k = 2 := by omega
          go_wp2_with fail
          refine (HA.out _).mono ?_
          rintro e w1 ⟨rfl, b1⟩
          have B1 := Lib.hid b1; clear b1
          go_wp2_with fail
          go_ret
          exact ⟨rfl, nextB HB.out.1 B1.out⟩
    · have d2 : decide (((bs b).size : Int) > 300) = true := by simp; omega
      clear hsa hsb ha hb
      generalize bs a = sa at *
      generalize bs b = sb at *
      go_enter Tryz.func3, Tryz.ntmps3
      go_wp2_with fail
      go_ret
      exact ⟨rfl, Below.refl _ _⟩
  · have d1 : decide (((bs a).size : Int) > 300) = true := by simp; omega
    clear hsa hsb ha
    generalize bs a = sa at *
    generalize bs b = sb at *
    go_enter Tryz.func3, Tryz.ntmps3
    go_wp2_with fail
    go_ret
    exact ⟨rfl, Below.refl _ _⟩
end Go.Proofs.YtceeilojcifgeaaGreatDoor
