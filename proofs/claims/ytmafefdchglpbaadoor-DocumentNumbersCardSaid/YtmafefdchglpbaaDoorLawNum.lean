/-
  The walk of the statement DocumentNumbers: it returns true for every int64 and every string (the table of powers of ten reads as it is laid).
-/
import Derived.Test.YtmafefdchglpbaaDoorDocK
import Derived.Test.YtmafefdchglpbaaDoorNumB
import Derived.Test.YtmafefdchglpbaaDoorNumC
import Derived.Test.YtmafefdchglpbaaDoorNumS
import Derived.Lib.ItoaLen
namespace Go.Proofs.YtmafefdchglpbaaDoor
open Go.RowKit

theorem bytes_of (s : ByteArray) : (⟨s.data.toList.toArray⟩ : ByteArray) = s := by apply ByteArray.ext; simp
theorem pnv_in {l : List UInt8} : -9223372036854775808 ≤ pnv l ∧ pnv l ≤ 9223372036854775807 := by
  unfold pnv
  split
  · rename_i h; have := (pnk_dec h).2.2; omega
  · omega
set_option maxRecDepth 100000 in
set_option maxHeartbeats 2000000 in
theorem numbers_any (n : Int) (s : ByteArray) (w : World) (h0 : -9223372036854775808 ≤ n) (h1 : n ≤ 9223372036854775807) (ht : Lib.TabIs Tryd.prog w "internal/strconv.uint64pow10" .u64 Lib.pow10Tab) :
    Calls Tryd.prog 6 #[.int .i64 n, .string s] w fun e w' => e = .returned (.bool true) ∧ Below w.heap.size w w' := by
  by_cases hbig : 300 < s.size
  · have hd : decide ((s.size : Int) > 300) = true := by simp; omega
    go_enter Tryd.func6, Tryd.ntmps6
    go_wp2
    go_ret
    exact ⟨rfl, Below.refl _ _⟩
  have hdb : decide ((s.size : Int) > 300) = false := by simp; omega
  have htb := Lib.tabBelow_of_tabIs ht
  have hP := fun w => ParseNumber_any s w (by omega)
  have hR := fun w => refParseNumber_any s w
  have hlen := Lib.itoa_length_le n h0 h1
  have hX : ∀ w, Calls Tryd.prog 24 #[.string ⟨(Lib.itoa n).toArray⟩] w fun e w' => e = .returned (.tuple #[.int .i64 (pnv (Lib.itoa n)), .bool (pnk (Lib.itoa n))]) ∧ w = w' := fun w =>
    ParseNumber_any ⟨(Lib.itoa n).toArray⟩ w (by show (Lib.itoa n).toArray.size ≤ _; rw [List.size_toArray]; omega)
  have hN : ∀ w', Below w.heap.size w w' → Calls Tryd.prog 26 #[.int .i64 n] w' fun e w'' => e = .returned (.string ⟨(Lib.itoa n).toArray⟩) ∧ Below w.heap.size w w'' := fun w' hb =>
    (Number_any n h0 h1 w' (htb w' hb)).mono fun e w'' ⟨he, hb2⟩ => ⟨he, hb.trans (hb2.mono hb.size)⟩
  have hRN : ∀ w', Below w.heap.size w w' → Calls Tryd.prog 27 #[.int .i64 n] w' fun e w'' => e = .returned (.string ⟨(Lib.itoa n).toArray⟩) ∧ Below w.heap.size w w'' := fun w' hb =>
    (refNumber_any n h0 h1 w').mono fun e w'' ⟨he, hb2⟩ => ⟨he, hb.trans (hb2.mono hb.size)⟩
  have hNA : pnk s.data.toList = true → ∀ w', Below w.heap.size w w' → Calls Tryd.prog 26 #[.int .i64 (pnv s.data.toList)] w' fun e w'' => e = .returned (.string s) ∧ Below w.heap.size w w'' := fun hp w' hb =>
    (Number_any (pnv s.data.toList) pnv_in.1 pnv_in.2 w' (htb w' hb)).mono fun e w'' ⟨he, hb2⟩ => ⟨by rw [he, (pnk_dec hp).1, bytes_of], hb.trans (hb2.mono hb.size)⟩
  have hA : ∀ w', Below w.heap.size w w' → Calls Tryd.prog 20 #[] w' fun e w'' => e = .returned (.bool true) ∧ Below w.heap.size w w'' := fun w' hb =>
    (awake_any w').mono fun e w'' ⟨he, hb2⟩ => ⟨he, hb.trans (hb2.mono hb.size)⟩
  obtain ⟨hk, hv⟩ := pnk_itoa n
  have hcs : (decide (n ≥ 0) = true ∧ decide (n ≤ 1099511627776) = true ∧ pnk (Lib.itoa n) = true ∧ pnv (Lib.itoa n) = n) ∨ (decide (n ≥ 0) = false ∧ pnk (Lib.itoa n) = false) ∨ (decide (n ≥ 0) = true ∧ decide (n ≤ 1099511627776) = false ∧ pnk (Lib.itoa n) = false) := by
    by_cases g0 : 0 ≤ n
    · by_cases g1 : n ≤ 1099511627776
      · exact .inl ⟨decide_eq_true g0, decide_eq_true g1, by rw [hk, decide_eq_true g0, decide_eq_true g1]; rfl, hv g0 g1⟩
      · exact .inr (.inr ⟨decide_eq_true g0, decide_eq_false g1, by rw [hk, decide_eq_false g1, Bool.and_false]⟩)
    · exact .inr (.inl ⟨decide_eq_false g0, by rw [hk, decide_eq_false g0]; rfl⟩)
  clear hk hv hlen ht htb h0 h1 hbig
  generalize (⟨(Lib.itoa n).toArray⟩ : ByteArray) = X at *
  generalize pnk (Lib.itoa n) = K at *
  generalize pnv (Lib.itoa n) = C at *
  generalize pnk s.data.toList = P at *
  generalize pnv s.data.toList = A at *
  have HP := Lib.hid hP; have HR := Lib.hid hR; have HX := Lib.hid hX; have HN := Lib.hid hN; have HRN := Lib.hid hRN; have HNA := Lib.hid hNA; have HA := Lib.hid hA
  clear hP hR hX hN hRN hNA hA
  rcases hcs with ⟨d1, d2, rfl, rfl⟩ | ⟨d1, rfl⟩ | ⟨d1, d2, rfl⟩
  all_goals
    cases P
    all_goals
      go_enter Tryd.func6, Tryd.ntmps6
      go_wp2_with fail
      refine (HP.out _).mono ?_
      rintro e w1 ⟨rfl, rfl⟩
      go_wp2_with fail
      refine (HR.out _).mono ?_
      rintro e w2 ⟨rfl, rfl⟩
      go_wp2_with fail
      refine (HN.out _ (Below.refl _ _)).mono ?_
      rintro e w3 ⟨rfl, b3⟩
      go_wp2_with fail
      refine (HRN.out _ b3).mono ?_
      rintro e w4 ⟨rfl, b4⟩
      go_wp2_with (first
        | (go_at_call 26; refine (HNA.out (by first | rfl | trivial) _ b4).mono ?_; rintro e w5 ⟨rfl, b4⟩)
        | (go_at_call 26; refine (HN.out _ b4).mono ?_; rintro e w6 ⟨rfl, b6⟩)
        | (go_at_call 24; refine (HX.out _).mono ?_; rintro e w7 ⟨rfl, rfl⟩)
        | (go_at_call 20; refine (HA.out _ b6).mono ?_; rintro e w8 ⟨rfl, b8⟩))
      go_ret
      exact ⟨rfl, b8⟩
end Go.Proofs.YtmafefdchglpbaaDoor
