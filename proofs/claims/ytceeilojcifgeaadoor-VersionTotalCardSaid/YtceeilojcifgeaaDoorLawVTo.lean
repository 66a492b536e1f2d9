/-
  VersionTotal: the walk of the law.
-/
import Derived.Test.YtceeilojcifgeaaDoorVthr
import Derived.Test.YtceeilojcifgeaaDoorVorF
namespace Go.Proofs.YtceeilojcifgeaaDoor
open Go.RowKit

theorem cmp_val {s : Int} {a b ka kb : BL} (ha : keyR s a = (ka, 0)) (hb : keyR s b = (kb, 0)) (w : World) :
    Calls Tryd.prog 12 #[.int .i64 s, .string (bs a), .string (bs b)] w fun e w' => e = .returned (.tuple #[.int .i64 (lx ka kb), .int .i64 0]) ∧ Below w.heap.size w w' := by
  have := compare_anyV s a b w
  have e : cmpR s a b = (lx ka kb, 0) := by unfold cmpR; rw [ha, hb]; rfl
  rw [e] at this; exact this
theorem lx_geq {a b c : BL} (h1 : 0 ≤ lx a b) (h2 : 0 ≤ lx b c) : 0 ≤ lx a c := by
  have := lx_trans c b a (by rw [lx_swap b c]; omega) (by rw [lx_swap a b]; omega)
  rw [lx_swap a c] at this; omega
set_option maxRecDepth 100000 in
set_option maxHeartbeats 4000000 in
theorem versionTotal_any (n : Int) (sp : Option Addr) (m cap : Nat) (l : List ByteArray) (st : Option Addr) (mt ct : Nat) (lt : List Int) (w : World) (hn : -9223372036854775808 ≤ n ∧ n ≤ 9223372036854775807) (hl : StrA w sp m cap l) (ht : IntA w st mt ct lt) :
    Calls Tryd.prog 4 #[.int .i64 n, .slice sp m cap, .slice st mt ct] w fun e w' => e = .returned (.bool true) ∧ Below w.heap.size w w' := by
  have hm := hl.short.1
  have HSC := Lib.hid (fun w => scheme_any n w)
  have HR := Lib.hid (schN_rng n)
  have HTH := Lib.hid (three_any (schN n) HR.out sp m cap l st mt ct lt w hl ht)
  clear hl ht
  by_cases h10 : m ≤ 10
  · have hd : decide ((m : Int) > 10) = false := by simp; omega
    generalize schN n = s at *
    go_enter Tryd.func4, Tryd.ntmps4
    go_wp2_with fail
    refine (HSC.out _).mono ?_
    rintro e w' ⟨rfl, rfl⟩
    go_wp2_with fail
    refine HTH.out.mono ?_
    rintro e w1 ⟨a, b, c, rfl, hv, b1⟩
    have B1 := Lib.hid b1; have HV := Lib.hid hv
    clear b1 hv
    obtain ⟨la, rfl⟩ := bs_eq a
    obtain ⟨lb, rfl⟩ := bs_eq b
    obtain ⟨lc, rfl⟩ := bs_eq c
    obtain ⟨va, vb, vc⟩ := HV.out
    rw [bs_data] at va vb vc
    have hsch : schB s = true := by rcases HR.out with rfl | rfl | rfl <;> rfl
    obtain ⟨ka, _, ea, _⟩ := val_keyO hsch va
    obtain ⟨kb, _, eb, _⟩ := val_keyO hsch vb
    obtain ⟨kc, _, ec, _⟩ := val_keyO hsch vc
    have C0 := Lib.hid (fun w => cmp_val ea eb w)
    have C1 := Lib.hid (fun w => cmp_val eb ec w)
    have C2 := Lib.hid (fun w => cmp_val ea ec w)
    have C3 := Lib.hid (fun w => cmp_val eb ea w)
    have C4 := Lib.hid (fun w => cmp_val ea ea w)
    have r1 := lx_rng ka kb
    have r2 := lx_rng kb kc
    have r3 := lx_rng ka kc
    have t1 := lx_trans ka kb kc
    have t2 := @lx_geq ka kb kc
    have t3 : lx ka kb = 0 → lx kb kc = lx ka kc := fun h => by rw [lx_zero _ _ h]
    rw [lx_swap ka kb] at C3; rw [lx_refl] at C4
    clear va vb vc hsch ea eb ec
    generalize bs la = a at *
    generalize bs lb = b at *
    generalize bs lc = c at *
    generalize lx ka kb = x at *
    generalize lx kb kc = y at *
    generalize lx ka kc = z at *
    have T := Lib.hid (And.intro r1 (And.intro r2 (And.intro r3 (And.intro t1 (And.intro t2 t3)))))
    clear r1 r2 r3 t1 t2 t3
    go_wp2_with fail
    generalize hw0 : World.alloc w1 _ = w0
    have HC := Lib.hid (show ∀ i (hi : i < 3), w0.cell? ⟨w1.heap.size, i, none⟩ = some ((#[Value.string a, Value.string b, Value.string c] : Array Value)[i]'hi) by
      rw [← hw0]; intro i hi; rw [cell_of_row _ w1.heap.size i _ _ _ (heap_alloc_new w1 _)]; simp [hi])
    have HW0 := Lib.hid (show Below w.heap.size w w0 by rw [← hw0]; exact B1.out.alloc B1.out.size _)
    have HW0L := Lib.hid (show w1.heap.size < w0.heap.size by rw [← hw0]; simp)
    clear hw0
    have h0i : w0.cell? ⟨w1.heap.size, 0, none⟩ = some (.string a) := HC.out 0 (by omega)
    have h0j : w0.cell? ⟨w1.heap.size, 1, none⟩ = some (.string b) := HC.out 1 (by omega)
    go_wp2_with fail
    refine (C0.out _).mono ?_
    rintro e w2 ⟨rfl, b0⟩
    have HX1 := Lib.hid (b0)
    clear b0 h0i h0j
    have h1i : w2.cell? ⟨w1.heap.size, 1, none⟩ = some (.string b) := (HX1.out.cell (p := ⟨w1.heap.size, 1, none⟩) HW0L.out).trans (HC.out 1 (by omega))
    have h1j : w2.cell? ⟨w1.heap.size, 2, none⟩ = some (.string c) := (HX1.out.cell (p := ⟨w1.heap.size, 2, none⟩) HW0L.out).trans (HC.out 2 (by omega))
    go_wp2_with fail
    refine (C1.out _).mono ?_
    rintro e w3 ⟨rfl, b1⟩
    have HX2 := Lib.hid (nextB HX1.out b1)
    clear b1 h1i h1j
    have h2i : w3.cell? ⟨w1.heap.size, 0, none⟩ = some (.string a) := (HX2.out.cell (p := ⟨w1.heap.size, 0, none⟩) HW0L.out).trans (HC.out 0 (by omega))
    have h2j : w3.cell? ⟨w1.heap.size, 2, none⟩ = some (.string c) := (HX2.out.cell (p := ⟨w1.heap.size, 2, none⟩) HW0L.out).trans (HC.out 2 (by omega))
    go_wp2_with fail
    refine (C2.out _).mono ?_
    rintro e w4 ⟨rfl, b2⟩
    have HX3 := Lib.hid (nextB HX2.out b2)
    clear b2 h2i h2j
    have h3i : w4.cell? ⟨w1.heap.size, 1, none⟩ = some (.string b) := (HX3.out.cell (p := ⟨w1.heap.size, 1, none⟩) HW0L.out).trans (HC.out 1 (by omega))
    have h3j : w4.cell? ⟨w1.heap.size, 0, none⟩ = some (.string a) := (HX3.out.cell (p := ⟨w1.heap.size, 0, none⟩) HW0L.out).trans (HC.out 0 (by omega))
    go_wp2_with fail
    refine (C3.out _).mono ?_
    rintro e w5 ⟨rfl, b3⟩
    have HX4 := Lib.hid (nextB HX3.out b3)
    clear b3 h3i h3j
    have h4i : w5.cell? ⟨w1.heap.size, 0, none⟩ = some (.string a) := (HX4.out.cell (p := ⟨w1.heap.size, 0, none⟩) HW0L.out).trans (HC.out 0 (by omega))
    have h4j : w5.cell? ⟨w1.heap.size, 0, none⟩ = some (.string a) := (HX4.out.cell (p := ⟨w1.heap.size, 0, none⟩) HW0L.out).trans (HC.out 0 (by omega))
    go_wp2_with fail
    refine (C4.out _).mono ?_
    rintro e w6 ⟨rfl, b4⟩
    have HX5 := Lib.hid (nextB HX4.out b4)
    clear b4 h4i h4j
    obtain ⟨r1, r2, r3, t1, t2, t3⟩ := T.out
    have ok : (x = -1 ∨ x = 0 ∨ x = 1) ∧ (y = -1 ∨ y = 0 ∨ y = 1) ∧ (z = -1 ∨ z = 0 ∨ z = 1) ∧ ¬ (x ≤ 0 ∧ y ≤ 0 ∧ 0 < z) ∧ ¬ (0 ≤ x ∧ 0 ≤ y ∧ z < 0) ∧ ¬ (x = 0 ∧ y ≠ z) := ⟨r1, r2, r3, fun h => by have := t1 h.1 h.2.1; omega, fun h => by have := t2 h.1 h.2.1; omega, fun h => h.2 (t3 h.1)⟩
    clear r1 r2 r3 t1 t2 t3 T
    obtain ⟨r1, r2, r3, o1, o2, o3⟩ := ok
    rcases r1 with rfl | rfl | rfl
    all_goals rcases r2 with rfl | rfl | rfl
    all_goals rcases r3 with rfl | rfl | rfl
    all_goals first
      | (exfalso; omega)
      | skip
    all_goals clear o1 o2 o3
    all_goals
      go_wp2_with fail
      refine (awake6_any _).mono ?_
      rintro e w9 ⟨rfl, b9⟩
      have B9 := Lib.hid b9; clear b9
      go_wp2_with fail
      go_ret
      exact ⟨rfl, nextB (HW0.out.trans (HX5.out.mono HW0.out.size)) B9.out⟩
  · have hd : decide ((m : Int) > 10) = true := by simp; omega
    go_enter Tryd.func4, Tryd.ntmps4
    go_wp2_with fail
    go_ret
    exact ⟨rfl, Below.refl _ _⟩
end Go.Proofs.YtceeilojcifgeaaDoor
