/-
  The walks of the reference's FormatHalf and Format.
-/
import Derived.Test.YtmafefdchglpbaaDoorHexB
namespace Go.Proofs.YtmafefdchglpbaaDoor
open Go.RowKit

set_option maxRecDepth 100000 in
set_option maxHeartbeats 1000000 in
theorem refFormatHalf_any (a : List Int) (w : World) (ha : a.length = 16) (hA : Byt a) :
    Calls Tryd.prog 17 #[.agg (a.map (Value.int .u8)).toArray] w fun e w' => e = .returned (.string ⟨(hexB a).toArray⟩) ∧ Below w.heap.size w w' := by
  have HLA := Lib.hid ha; have HA := Lib.hid hA; clear ha hA
  have HR := Lib.hid (row_new w 25 .u8 a)
  have HB := Lib.hid (below_alloc w (.cells (a.map (Value.int .u8)).toArray 25))
  have HSZ := Lib.hid (alloc_size w (.cells (a.map (Value.int .u8)).toArray 25))
  go_enter Tryd.func17, Tryd.ntmps17
  go_wp2_with fail
  generalize hw0 : World.alloc w _ = w0
  rw [hw0] at HR HB HSZ
  clear hw0
  have hs0 := HSZ.out
  go_loopg [3, 4] 16 (fun g v i wx => ∃ (j N : Nat) (sp : Option Addr) (cap : Nat), j + g = 16 ∧ Hid (N = j) ∧ i = .int .i64 j ∧ v = .slice sp N cap ∧ Hid (wx.ownsRow w0.heap.size 5 1 (.slice sp N cap) N ((a.take j).map (Value.int .u8))) ∧ Hid (Below w0.heap.size w0 wx))
  case atStart => exact ⟨0, 0, none, 0, rfl, rfl, rfl, rfl, World.ownsRow_nil _ _ _ _, Below.refl _ _⟩
  case round =>
    obtain ⟨j, N, sp4, cap4, hjg, hN, rfl, rfl, hown, hbe⟩ := hrel
    have hbs := hbe.out.size
    have hNb : N ≤ 16 := by have := hN.out; omega
    by_cases hj : j < 16
    · have hc1 : decide ((j : Int) < 16) = true := by simp; omega
      have ca := (HR.out.below hbe.out (by omega)).get j (by rw [HLA.out]; exact hj)
      have q1 : (0 : Int) ≤ (j : Int) := by omega
      have q2 : (j : Int) < 16 := by omega
      obtain ⟨x, hx⟩ : ∃ x, a.getD j 0 = x := ⟨_, rfl⟩
      rw [hx] at ca
      have HX := Lib.hid hx; clear hx
      have HLL : Hid (N = (a.take j).length) := by show _ = _; rw [List.length_take, HLA.out, hN.out]; omega
      go_wp2_with (at_builtin; refine wpList_append_byte rfl (.tmp 9) (.tmp 13) 34 5 rfl Tryd.underlying34 Tryd.info5a w0.heap.size _ (a.take j) N rfl HLL.out (hown.out.alloc _) wr.heap.size x rfl (by simp) (by omega) (by simp; omega) ?_; intro sp5 cap5 w5 hown5 hg5)
      have hbe5 := (hbe.out.alloc hbs (.cells #[.int .u8 x] 5)).grown hg5 (by simp; omega) (own_baseC hown.out)
      go_roundg (16 - (j + 1))
      case measure => omega
      case rel =>
        refine ⟨j + 1, N + 1, sp5, cap5, by omega, by show _ = _; have := hN.out; omega, by go_num, rfl, ?_, hbe5⟩
        have := hown5.out
        show World.ownsRow _ _ _ _ _ _ _
        rw [take_snoc0 _ _ (by rw [HLA.out]; exact hj), HX.out]; exact this
    · obtain rfl : j = 16 := by omega
      have hN2 := hN.out
      rw [List.take_of_length_le (by rw [HLA.out]; exact Nat.le_refl _)] at hown
      have hc1 : decide ((16 : Int) < 16) = false := by decide
      rw [show ((16 : Nat) : Int) = 16 from rfl]
      subst hN2
      have ho := hown.out
      rw [← HLA.out] at ho
      obtain ⟨sp7, cap7, e7, hsrc, hnil⟩ := src_of_own ho HA.out
      injection e7 with e1 e2 e3
      subst e1 e3
      rw [HLA.out] at hsrc
      have HSRC := Lib.hid hsrc
      have HWR : Hid (Below w.heap.size w wr) := HB.out.trans (hbe.out.mono (by omega))
      have hadd : 7 + (hexB a).length ≤ 9223372036854775807 := by rw [hexB_length, HLA.out]; omega
      clear ho hsrc hnil hown hbe hN
      go_wp2_with fail
      refine (refHex_any sp4 16 cap4 a wr HSRC.out (by omega)).mono ?_
      rintro e w3 ⟨rfl, hb3⟩
      have HB3 := Lib.hid (HWR.out.trans (hb3.mono (by omega)))
      clear hb3
      go_wp2
      go_ret
      exact ⟨rfl, HB3.out⟩
set_option maxRecDepth 100000 in
set_option maxHeartbeats 1000000 in
theorem refFormat_any (a : List Int) (w : World) (ha : a.length = 32) (hA : Byt a) :
    Calls Tryd.prog 15 #[.agg (a.map (Value.int .u8)).toArray] w fun e w' => e = .returned (.string ⟨([115, 104, 97, 50, 53, 54, 58] ++ hexB a).toArray⟩) ∧ Below w.heap.size w w' := by
  have HLA := Lib.hid ha; have HA := Lib.hid hA; clear ha hA
  have HR := Lib.hid (row_new w 23 .u8 a)
  have HB := Lib.hid (below_alloc w (.cells (a.map (Value.int .u8)).toArray 23))
  have HSZ := Lib.hid (alloc_size w (.cells (a.map (Value.int .u8)).toArray 23))
  go_enter Tryd.func15, Tryd.ntmps15
  go_wp2_with fail
  generalize hw0 : World.alloc w _ = w0
  rw [hw0] at HR HB HSZ
  clear hw0
  have hs0 := HSZ.out
  go_loopg [3, 4] 32 (fun g v i wx => ∃ (j N : Nat) (sp : Option Addr) (cap : Nat), j + g = 32 ∧ Hid (N = j) ∧ i = .int .i64 j ∧ v = .slice sp N cap ∧ Hid (wx.ownsRow w0.heap.size 5 1 (.slice sp N cap) N ((a.take j).map (Value.int .u8))) ∧ Hid (Below w0.heap.size w0 wx))
  case atStart => exact ⟨0, 0, none, 0, rfl, rfl, rfl, rfl, World.ownsRow_nil _ _ _ _, Below.refl _ _⟩
  case round =>
    obtain ⟨j, N, sp4, cap4, hjg, hN, rfl, rfl, hown, hbe⟩ := hrel
    have hbs := hbe.out.size
    have hNb : N ≤ 32 := by have := hN.out; omega
    by_cases hj : j < 32
    · have hc1 : decide ((j : Int) < 32) = true := by simp; omega
      have ca := (HR.out.below hbe.out (by omega)).get j (by rw [HLA.out]; exact hj)
      have q1 : (0 : Int) ≤ (j : Int) := by omega
      have q2 : (j : Int) < 32 := by omega
      obtain ⟨x, hx⟩ : ∃ x, a.getD j 0 = x := ⟨_, rfl⟩
      rw [hx] at ca
      have HX := Lib.hid hx; clear hx
      have HLL : Hid (N = (a.take j).length) := by show _ = _; rw [List.length_take, HLA.out, hN.out]; omega
      go_wp2_with (at_builtin; refine wpList_append_byte rfl (.tmp 9) (.tmp 13) 34 5 rfl Tryd.underlying34 Tryd.info5a w0.heap.size _ (a.take j) N rfl HLL.out (hown.out.alloc _) wr.heap.size x rfl (by simp) (by omega) (by simp; omega) ?_; intro sp5 cap5 w5 hown5 hg5)
      have hbe5 := (hbe.out.alloc hbs (.cells #[.int .u8 x] 5)).grown hg5 (by simp; omega) (own_baseC hown.out)
      go_roundg (32 - (j + 1))
      case measure => omega
      case rel =>
        refine ⟨j + 1, N + 1, sp5, cap5, by omega, by show _ = _; have := hN.out; omega, by go_num, rfl, ?_, hbe5⟩
        have := hown5.out
        show World.ownsRow _ _ _ _ _ _ _
        rw [take_snoc0 _ _ (by rw [HLA.out]; exact hj), HX.out]; exact this
    · obtain rfl : j = 32 := by omega
      have hN2 := hN.out
      rw [List.take_of_length_le (by rw [HLA.out]; exact Nat.le_refl _)] at hown
      have hc1 : decide ((32 : Int) < 32) = false := by decide
      rw [show ((32 : Nat) : Int) = 32 from rfl]
      subst hN2
      have ho := hown.out
      rw [← HLA.out] at ho
      obtain ⟨sp7, cap7, e7, hsrc, hnil⟩ := src_of_own ho HA.out
      injection e7 with e1 e2 e3
      subst e1 e3
      rw [HLA.out] at hsrc
      have HSRC := Lib.hid hsrc
      have HWR : Hid (Below w.heap.size w wr) := HB.out.trans (hbe.out.mono (by omega))
      have hadd : 7 + (hexB a).length ≤ 9223372036854775807 := by rw [hexB_length, HLA.out]; omega
      clear ho hsrc hnil hown hbe hN
      go_wp2_with fail
      refine (refHex_any sp4 32 cap4 a wr HSRC.out (by omega)).mono ?_
      rintro e w3 ⟨rfl, hb3⟩
      have HB3 := Lib.hid (HWR.out.trans (hb3.mono (by omega)))
      clear hb3
      go_wp2
      go_ret
      exact ⟨by congr 2, HB3.out⟩
end Go.Proofs.YtmafefdchglpbaaDoor
