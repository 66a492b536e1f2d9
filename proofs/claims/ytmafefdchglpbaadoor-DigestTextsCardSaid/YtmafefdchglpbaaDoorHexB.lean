/-
  The walks of the reference's hex and of digest.FormatHalf, digest.Format and the reference's Format, FormatHalf.
-/
import Derived.Test.YtmafefdchglpbaaDoorHexA
namespace Go.Proofs.YtmafefdchglpbaaDoor
open Go.RowKit

set_option maxRecDepth 100000 in
set_option maxHeartbeats 1000000 in
theorem refHex_any (sp : Option Addr) (n cap : Nat) (b : List Int) (w : World) (hs : Src w w.heap.size sp n cap b) (hbd : n ≤ 1073741824) :
    Calls Tryd.prog 40 #[.slice sp n cap] w fun e w' => e = .returned (.string ⟨(hexB b).toArray⟩) ∧ Below w.heap.size w w' := by
  have HS := Lib.hid hs; clear hs
  obtain ⟨i0, hi0, hz0, hz1, hz2⟩ := info_parts Tryd.info5a
  have HI0 := Lib.hid hi0; have HZ0 := Lib.hid hz0; have HZ1 := Lib.hid hz1; have HZ2 := Lib.hid hz2
  clear hi0 hz0 hz1 hz2
  go_enter Tryd.func40, Tryd.ntmps40
  go_wp2_with fail
  go_loopw [4, 5] (fun v i wr => ∃ (k N : Nat) (sp' : Option Addr) (cap' : Nat), k ≤ n ∧ i = .int .i64 k ∧ N = 2 * k ∧ v = .slice sp' N cap' ∧ Hid (wr.ownsRow w.heap.size 5 1 (.slice sp' N cap') N (Lib.byteCells (hexB (b.take k)))) ∧ Hid (Below w.heap.size w wr)) (fun _ i _ => n - (intOf i).toNat)
  case atStart => exact ⟨0, 0, none, 0, by omega, rfl, rfl, rfl, World.ownsRow_nil _ _ _ _, Below.refl _ _⟩
  case round =>
    obtain ⟨k, N, sp', cap', hk, rfl, hN, rfl, hown, hbe⟩ := hrel
    have hbs := hbe.out.size
    have hNb : N ≤ 2147483648 := by omega
    have HNE := Lib.hid hN; clear hN
    by_cases hlt : k < n
    · obtain ⟨bb, off, rfl, hbb, hcap, hc⟩ := HS.out.cells (by omega)
      have hd : decide ((k : Int) < (n : Int)) = true := by simp; omega
      have hx := HS.out.byt.at_ k
      have HE := Lib.hid (hexB_succ b k (by rw [HS.out.len]; exact hlt))
      have q1 : (0 : Int) ≤ (k : Int) := by omega
      have q2 : (k : Int) < (n : Int) := by omega
      have ck := (hbe.out.cell (p := ⟨bb, off + k, none⟩) hbb).trans (hc k hlt)
      have hx1 := hexl_index ((b.getD k 0).toNat / 16) (by omega)
      have hx2 := hexl_index ((b.getD k 0).toNat % 16) (by omega)
      rw [show (((b.getD k 0).toNat / 16 : Nat) : Int) = (b.getD k 0) / 16 by omega] at hx1
      rw [show (((b.getD k 0).toNat % 16 : Nat) : Int) = (b.getD k 0) % 16 by omega] at hx2
      have hand := and15H (b.getD k 0) hx.1 hx.2
      generalize b.getD k 0 = x at *
      obtain ⟨c1, hc1⟩ : ∃ c, hexl (x.toNat / 16) = c := ⟨_, rfl⟩
      obtain ⟨c2, hc2⟩ : ∃ c, hexl (x.toNat % 16) = c := ⟨_, rfl⟩
      rw [hc1] at hx1 HE
      rw [hc2] at hx2 HE
      clear hc1 hc2 hc
      have hl : (hexB (b.take k)).length = N := by rw [hexB_length, List.length_take, HS.out.len, HNE.out]; omega
      generalize hexB (b.take k) = T at *
      have HL := Lib.hid hl; clear hl
      have HKEEP : Hid (∀ w', Below w.heap.size wr w' → w'.cell? ⟨bb, off + k, none⟩ = some (.int .u8 x)) := fun w' h => (h.cell (p := ⟨bb, off + k, none⟩) hbb).trans ck
      go_wp2_with fail
      go_region_held3 (fun w' => w'.cell? ⟨bb, off + k, none⟩ = some (.int .u8 x)) (first | exact HKEEP.out _ (Below.refl _ _) | exact HKEEP.out _ (Below.refl _ _).drew | exact HKEEP.out _ ((Below.refl _ _).alloc hbs _) | exact HKEEP.out _ ((Below.refl _ _).alloc hbs _).drew | exact HKEEP.out _ (by assumption)) ((refine step_append_ownH rfl (.tmp 12) (.tmp 27) 34 (by rfl) w.heap.size 5 i0 (.int .u8 0) 1 1 Tryd.underlying34 HI0.out HZ0.out HZ1.out HZ2.out rfl (by decide) _ _ _ (by rfl) (by exact (hown.out.alloc _).drew) ⟨wr.heap.size, 0, none⟩ 2 2 (Lib.byteCells [c1, c2]) (by rfl) (by rfl) (by exact cells_newH _ _ _) (Lib.byteCells_one _) (by unfold maxLen; omega) (by omega) (by simp; omega) ?_; intro v' w1 hown1 hg1 _; have HO1 := Lib.hid hown1; clear hown1; have hbA : Below w.heap.size wr w1 := (((Below.refl _ _).alloc hbs _).drew).grown hg1 (by simp; omega) (own_baseC hown.out)))
      all_goals
        go_wp2
        have hbe1 := hbe.out.trans hbA
        obtain ⟨sp5, cap5, rfl⟩ := own_shapeC HO1.out
        go_roundw
        case rel =>
          refine ⟨k + 1, N + 2, sp5, cap5, by omega, by go_num, by have := HNE.out; omega, rfl, ?_, hbe1⟩
          have := HO1.out
          show World.ownsRow _ _ _ _ _ _ _
          rw [HE.out, Lib.byteCells_append]; exact this
        case measure => simp [intOf]; omega
    · obtain rfl : k = n := by omega
      have hd : decide ((k : Int) < (k : Int)) = false := by simp
      have hall : b.take k = b := List.take_of_length_le (by rw [HS.out.len]; exact Nat.le_refl _)
      rw [hall] at hown
      have hlen : (hexB b).length = N := by rw [hexB_length, HS.out.len, HNE.out]
      have ho := hown.out
      rw [← hlen] at ho
      have hcv := run_string_ownH ho
      rw [hlen] at hcv
      have HBE := Lib.hid hbe.out
      clear ho hlen hown hall
      obtain ⟨T, hT⟩ : ∃ T, hexB b = T := ⟨_, rfl⟩
      rw [hT] at hcv
      have HT := Lib.hid hT; clear hT
      go_wp2
      go_ret
      exact ⟨by rw [HT.out]; rfl, HBE.out⟩
set_option maxRecDepth 100000 in
set_option maxHeartbeats 1000000 in
theorem FormatHalf_any (a : List Int) (w : World) (ha : a.length = 16) (hA : Byt a) :
    Calls Tryd.prog 16 #[.agg (a.map (Value.int .u8)).toArray] w fun e w' => e = .returned (.string ⟨(hexB a).toArray⟩) ∧ Below w.heap.size w w' := by
  have hr := row_new w 25 .u8 a
  have hb := below_alloc w (.cells (a.map (Value.int .u8)).toArray 25)
  have hsz := alloc_size w (.cells (a.map (Value.int .u8)).toArray 25)
  have HSRC : Hid (Src (w.alloc (.cells (a.map (Value.int .u8)).toArray 25)) (w.heap.size + 1) (some ⟨w.heap.size, 0, none⟩) 16 16 a) := by
    have := bytes_block (cap := 16) (B := w.heap.size + 1) hr hA (by omega) (by omega)
    rw [ha] at this; exact this
  rw [← hsz] at HSRC
  have HB := Lib.hid hb; have HSZ := Lib.hid hsz
  clear hr hb hsz ha hA
  go_enter Tryd.func16, Tryd.ntmps16
  go_wp2_with fail
  refine (hex_any _ 16 16 a _ HSRC.out (by omega)).mono ?_
  rintro e w1 ⟨rfl, hb1⟩
  have HBB := Lib.hid (HB.out.trans (hb1.mono (by rw [HSZ.out]; omega)))
  clear hb1 HSRC
  go_wp2
  go_ret
  exact ⟨rfl, HBB.out⟩
set_option maxRecDepth 100000 in
set_option maxHeartbeats 1000000 in
theorem Format_any (a : List Int) (w : World) (ha : a.length = 32) (hA : Byt a) :
    Calls Tryd.prog 14 #[.agg (a.map (Value.int .u8)).toArray] w fun e w' => e = .returned (.string ⟨([115, 104, 97, 50, 53, 54, 58] ++ hexB a).toArray⟩) ∧ Below w.heap.size w w' := by
  have hr := row_new w 23 .u8 a
  have hb := below_alloc w (.cells (a.map (Value.int .u8)).toArray 23)
  have hsz := alloc_size w (.cells (a.map (Value.int .u8)).toArray 23)
  have HSRC : Hid (Src (w.alloc (.cells (a.map (Value.int .u8)).toArray 23)) (w.heap.size + 1) (some ⟨w.heap.size, 0, none⟩) 32 32 a) := by
    have := bytes_block (cap := 32) (B := w.heap.size + 1) hr hA (by omega) (by omega)
    rw [ha] at this; exact this
  rw [← hsz] at HSRC
  have HB := Lib.hid hb; have HSZ := Lib.hid hsz
  have HLA := Lib.hid ha
  clear hr hb hsz ha hA
  go_enter Tryd.func14, Tryd.ntmps14
  go_wp2_with fail
  refine (hex_any _ 32 32 a _ HSRC.out (by omega)).mono ?_
  rintro e w1 ⟨rfl, hb1⟩
  have HBB := Lib.hid (HB.out.trans (hb1.mono (by rw [HSZ.out]; omega)))
  clear hb1 HSRC
  have hadd : 7 + (hexB a).length ≤ 9223372036854775807 := by rw [hexB_length, HLA.out]; omega
  go_wp2
  go_ret
  exact ⟨by congr 2, HBB.out⟩
end Go.Proofs.YtmafefdchglpbaaDoor
