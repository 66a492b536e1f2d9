/-
  The walk of slices.rotateCmpFunc at api.Blob.
-/
import Derived.Test.YtdjknefbaclleaaGreatDoorStlB
namespace Go.Proofs.YtdjknefbaclleaaGreatDoor
open Go.RowKit Go.Lib Go.Sort

set_option maxHeartbeats 4000000 in
set_option maxRecDepth 1000000 in
theorem StlRotate {α : Type} [Inhabited α] (enc : α → List Value) (blk off cap a m b : Nat) (d0 d : Array α) (w0 w : World) (F : Value) (kc : Nat) (aE : ∀ w, (isAgg 50).run Tryz.prog w = .ok true w) (zE : ∀ w, (Go.sizeOf 50).run Tryz.prog w = .ok kc w)
    (R : RowK enc kc w0 blk off d0) (hs : d0.size = d.size) (S : SWK enc kc w0 blk off d w) (ham : a < m) (hmb : m < b) (hb : b ≤ d.size) (hsz : d.size < 4611686018427387904) :
    Calls Tryz.prog 127 #[.slice (some ⟨blk, off, none⟩) d.size cap, .int .i64 a, .int .i64 m, .int .i64 b, F] w fun e w' =>
      e = .returned (.tuple #[]) ∧ ∃ d', d'.size = d.size ∧ PermIn a b d d' ∧ Rot d d' a m b ∧ SWK enc kc w0 blk off d' w' := by
  have S0 : Aside _ := S
  have HSW := Lib.hid (fun (a b n : Nat) (dk : Array α) (w : World) (h1 : d.size = dk.size) (S : SWK enc kc w0 blk off dk w) (h2 : a + n ≤ b) (h3 : b + n ≤ d.size) =>
    (show Calls Tryz.prog 133 #[.slice (some ⟨blk, off, none⟩) d.size cap, .int .i64 a, .int .i64 b, .int .i64 n, F] w fun e w' => e = .returned (.tuple #[]) ∧ SWK enc kc w0 blk off (swr dk a b n) w' by
      have := StlSwapRange enc blk off cap a b n d0 dk w0 w F kc aE zE R (by omega) S h2 (by omega) (by omega)
      rw [← h1] at this; exact this))
  have HG := Lib.hid (rot_start d (Nat.le_of_lt ham) (Nat.le_of_lt hmb))
  clear S
  go_enter Tryz.func127, Tryz.ntmps127
  have q1 : IntKind.i64.wrap ((m : Int) - (a : Int)) = ((m - a : Nat) : Int) := by rw [IntKind.wrap_i64]; omega
  have q2 : IntKind.i64.wrap ((b : Int) - (m : Int)) = ((b - m : Nat) : Int) := by rw [IntKind.wrap_i64]; omega
  go_wp2_with fail
  clear q1 q2
  go_loopg [10, 11] (m - a + (b - m)) (fun g vi vj wr => ∃ (i j : Nat) (dk : Array α), vi = .int .i64 i ∧ vj = .int .i64 j ∧ 1 ≤ i ∧ 1 ≤ j ∧ i ≤ m - a ∧ j ≤ b - m ∧ i + j ≤ g ∧ Hid (dk.size = d.size ∧ PermIn a b d dk ∧ RotI (rotG d a m b) m i j dk) ∧ Aside (SWK enc kc w0 blk off dk wr))
  case atStart => exact ⟨m - a, b - m, d, by first | rfl | (congr 1; omega), by first | rfl | (congr 1; omega), by omega, by omega, Nat.le_refl _, Nat.le_refl _, Nat.le_refl _, ⟨rfl, permIn_refl _ _ _, HG.out⟩, S0⟩
  case round =>
    clear S0 HG
    obtain ⟨i, j, dk, rfl, rfl, hi1, hj1, him, hjb, hg, H, S1⟩ := hrel
    have hmi : IntKind.i64.wrap ((m : Int) - (i : Int)) = ((m - i : Nat) : Int) := by rw [IntKind.wrap_i64]; omega
    by_cases hgt : j < i
    · have d1 : ((i : Int) != (j : Int)) = true := by rw [bne_iff_ne]; omega
      have d2 : decide ((i : Int) > (j : Int)) = true := by simp; omega
      have d3 : decide ((j : Int) < (i : Int)) = true := by simp; omega
      have C := Lib.hid (HSW.out (m - i) m j dk wr H.out.1.symm S1.out (by omega) (by omega))
      have hij : IntKind.i64.wrap ((i : Int) - (j : Int)) = ((i - j : Nat) : Int) := by rw [IntKind.wrap_i64]; omega
      go_wp2_with fail
      refine C.out.mono ?_
      rintro e w2 ⟨rfl, S2⟩
      have S3 : Aside _ := S2
      clear S2 C
      go_wp2_with fail
      clear hmi hij d1 d2 d3
      go_roundg (i - j + j)
      case measure => omega
      case rel =>
        refine ⟨i - j, j, swr dk (m - i) m j, by first | rfl | (congr 1; omega), rfl, by omega, hj1, by omega, hjb, Nat.le_refl _, ⟨by rw [size_swr]; exact H.out.1, ?_, ?_⟩, S3⟩
        · exact permIn_trans _ _ _ _ _ H.out.2.1 (swr_perm dk (m - i) m a b (by omega) (by rw [H.out.1]; exact hb) j (by omega) (by omega))
        · exact rot_gt H.out.2.2 hgt (by omega) (by rw [H.out.1]; omega)
    · by_cases hlt : i < j
      · have d1 : ((i : Int) != (j : Int)) = true := by rw [bne_iff_ne]; omega
        have d2 : decide ((i : Int) > (j : Int)) = false := by simp; omega
        have d3 : decide ((j : Int) < (i : Int)) = false := by simp; omega
        have C := Lib.hid (HSW.out (m - i) (m + j - i) i dk wr H.out.1.symm S1.out (by omega) (by omega))
        have hmj : IntKind.i64.wrap ((m : Int) + (j : Int)) = (m : Int) + (j : Int) := by rw [IntKind.wrap_i64]; omega
        have hmji : IntKind.i64.wrap ((m : Int) + (j : Int) - (i : Int)) = ((m + j - i : Nat) : Int) := by rw [IntKind.wrap_i64]; omega
        have hij : IntKind.i64.wrap ((j : Int) - (i : Int)) = ((j - i : Nat) : Int) := by rw [IntKind.wrap_i64]; omega
        go_wp2_with fail
        refine C.out.mono ?_
        rintro e w2 ⟨rfl, S2⟩
        have S3 : Aside _ := S2
        clear S2 C
        go_wp2_with fail
        clear hmi hij hmj hmji d1 d2 d3
        go_roundg (i + (j - i))
        case measure => omega
        case rel =>
          refine ⟨i, j - i, swr dk (m - i) (m + j - i) i, rfl, by first | rfl | (congr 1; omega), hi1, by omega, him, by omega, Nat.le_refl _, ⟨by rw [size_swr]; exact H.out.1, ?_, ?_⟩, S3⟩
          · exact permIn_trans _ _ _ _ _ H.out.2.1 (swr_perm dk (m - i) (m + j - i) a b (by omega) (by rw [H.out.1]; exact hb) i (by omega) (by omega))
          · exact rot_lt H.out.2.2 hlt (by omega) (by rw [H.out.1]; omega)
      · obtain rfl : i = j := by omega
        have d1 : ((i : Int) != (i : Int)) = false := by simp
        have C := Lib.hid (HSW.out (m - i) m i dk wr H.out.1.symm S1.out (by omega) (by omega))
        go_wp2_with fail
        refine C.out.mono ?_
        rintro e w2 ⟨rfl, S2⟩
        have S3 : Aside _ := S2
        clear S2 C
        go_wp2_with fail
        go_end0
        exact ⟨rfl, swr dk (m - i) m i, by rw [size_swr]; exact H.out.1, permIn_trans _ _ _ _ _ H.out.2.1 (swr_perm dk (m - i) m a b (by omega) (by rw [H.out.1]; exact hb) i (by omega) (by omega)), fun k => rot_eq H.out.2.2 (by omega) (by rw [H.out.1]; omega) k, S3.out⟩
end Go.Proofs.YtdjknefbaclleaaGreatDoor
