/-
  Versions: the walks of TrimRight at a zero byte and of dropZeros (condition: keys of at most 100000 bytes).
-/
import Derived.Test.YtceeilojcifgeaaGreatDoorVerE
import Derived.Deep.MidRow
namespace Go.Proofs.YtceeilojcifgeaaGreatDoor
open Go.RowKit

theorem dz_take (k : BL) (j : Nat) (h : j < k.length) (h2 : k[j] = 0) : dz (k.take (j + 1)) = dz (k.take j) := by
  rw [List.take_succ_eq_append_getElem h, h2, dz_snoc_zero]
theorem dz_stop (k : BL) (j : Nat) (h : j < k.length) (h2 : k[j] ≠ 0) : dz (k.take (j + 1)) = k.take (j + 1) := by
  rw [List.take_succ_eq_append_getElem h, dz_snoc _ _ h2]
theorem dz_pre (k : BL) : dz k = k.take (dz k).length := by
  unfold dz
  obtain ⟨t, ht⟩ := List.dropWhile_suffix (l := k.reverse) (fun x => x == 0)
  have : k = (k.reverse.dropWhile (fun x => x == 0)).reverse ++ t.reverse := by
    rw [← List.reverse_append, ht, List.reverse_reverse]
  conv => rhs; arg 2; rw [this]
  rw [List.take_left]
theorem dz_le (k : BL) : (dz k).length ≤ k.length := by rw [dz_pre k]; simp; omega
set_option maxRecDepth 100000 in
set_option maxHeartbeats 1000000 in
theorem trimRow_any (b off cap : Nat) (k : BL) (w : World) (hc : ∀ i, ∀ h : i < k.length, w.cell? ⟨b, off + i, none⟩ = some (.int .u8 (k[i].toNat : Int))) (hl : k.length ≤ 100000) (hcap : k.length ≤ cap) (hcm : cap ≤ 9223372036854775807) :
    Calls Tryz.prog 100 #[.slice (some ⟨b, off, none⟩) k.length cap, .int .u8 0] w fun e w' => e = .returned (.slice (some ⟨b, off, none⟩) (dz k).length cap) ∧ dz k = k.take (dz k).length ∧ w = w' := by
  have HC := Lib.hid hc
  obtain ⟨n, hn⟩ : ∃ n, k.length = n := ⟨_, rfl⟩
  have HN := Lib.hid hn
  rw [hn] at hl hcap ⊢
  clear hc hn
  go_enter Tryz.func100, Tryz.ntmps100
  go_wp2_with fail
  go_loop [0] (fun s => ∃ j : Nat, s = .slice (some ⟨b, off, none⟩) j cap ∧ j ≤ n ∧ Hid (dz (k.take j) = dz k)) (fun s => match s with | .slice _ j _ => j | _ => 0)
  case atStart => exact ⟨n, rfl, Nat.le_refl _, by show _ = _; rw [← HN.out, List.take_length]⟩
  case round =>
    obtain ⟨j, rfl, hj, HZ⟩ := hrel
    cases j with
    | zero =>
      have HX := Lib.hid (show dz k = [] by rw [← HZ.out]; rfl)
      go_wp2_with fail
      go_ret
      exact ⟨by rw [HX.out]; rfl, by rw [HX.out]; rfl, rfl⟩
    | succ j =>
      have hjl : j < k.length := by have := HN.out; omega
      have hcj := HC.out j hjl
      have q0 : (0 : Int) ≤ (j : Int) := by omega
      have q1 : (j : Int) < ((j + 1 : Nat) : Int) := by omega
      have q2 : (j : Int) ≤ (cap : Int) := by omega
      have q3 : (((j + 1 : Nat) : Int) - 1) = (j : Int) := by omega
      obtain ⟨q, hq⟩ : ∃ q, ((k[j].toNat : Int) == 0) = q := ⟨_, rfl⟩
      have HQ := Lib.hid (show (k[j] = 0) ↔ q = true by
        rw [← hq, beq_iff_eq, ← UInt8.toNat_inj]
        show k[j].toNat = 0 ↔ _
        omega)
      have HL := Lib.hid hjl
      generalize (k[j].toNat : Int) = v at *
      cases q
      · have HX := Lib.hid (show dz k = k.take (j + 1) by rw [← HZ.out]; exact dz_stop k j hjl (by rw [Ne, HQ.out]; simp))
        have HY := Lib.hid (show (dz k).length = j + 1 by rw [HX.out, List.length_take]; omega)
        go_wp2_with fail
        go_ret
        exact ⟨by rw [HY.out]; rfl, by rw [HY.out]; exact HX.out, rfl⟩
      · have HX := Lib.hid (show dz (k.take j) = dz k by rw [← HZ.out]; exact (dz_take k j hjl (HQ.out.2 rfl)).symm)
        go_wp2_with fail
        go_round
        case rel => exact ⟨j, by go_num, by omega, HX.out⟩
        case measure => show j < j + 1; omega
set_option maxRecDepth 100000 in
set_option maxHeartbeats 1000000 in
theorem trimRight_any (b off cap : Nat) (k : BL) (w : World) (hc : ∀ i, ∀ h : i < k.length, w.cell? ⟨b, off + i, none⟩ = some (.int .u8 (k[i].toNat : Int))) (hl : k.length ≤ 100000) (hcap : k.length ≤ cap) (hcm : cap ≤ 9223372036854775807) (hp : 0 < k.length) :
    Calls Tryz.prog 85 #[.slice (some ⟨b, off, none⟩) k.length cap, .string { data := #[0] }] w fun e w' => e = .returned (.slice (some ⟨b, off, none⟩) (dz k).length cap) ∧ dz k = k.take (dz k).length ∧ w = w' := by
  have HC := Lib.hid (trimRow_any b off cap k w hc hl hcap hcm)
  clear hc
  have HQ := Lib.hid (dz_pre k)
  generalize (dz k).length = m at *
  obtain ⟨n, hn⟩ : ∃ n, k.length = n := ⟨_, rfl⟩
  rw [hn] at hl hcap hp HC ⊢
  clear hn
  have hd : ((n : Int) == 0) = false := by simp; omega
  go_enter Tryz.func85, Tryz.ntmps85
  go_wp2_with fail
  refine HC.out.mono ?_
  rintro e w' ⟨rfl, -, rfl⟩
  go_wp2_with fail
  go_ret
  exact ⟨by rfl, HQ.out, rfl⟩
set_option maxRecDepth 100000 in
set_option maxHeartbeats 1000000 in
theorem trimRight_none (sp : Option Addr) (cap : Nat) (w : World) :
    Calls Tryz.prog 85 #[.slice sp 0 cap, .string { data := #[0] }] w fun e w' => e = .returned (.slice sp 0 cap) ∧ w = w' := by
  go_enter Tryz.func85, Tryz.ntmps85
  go_wp2_with fail
  go_ret
  exact ⟨by rfl, rfl⟩
theorem own_preV {w : World} {base e : Nat} {sp : Option Addr} {n cap : Nat} {xs : List Value} (h : w.ownsRow base e 1 (.slice sp n cap) n xs) (m : Nat) (hm : m ≤ n) : w.ownsRow base e 1 (.slice sp m cap) m (xs.take m) := by
  obtain ⟨h0, ⟨h1, h2⟩ | ⟨g, c, cur, h1, h2, h3, h4, h5, h6, h7⟩⟩ := h
  · injection h1 with h1 h1' h1''; subst h2
    obtain rfl : m = 0 := by omega
    subst h1 h1''
    exact ⟨by simp, .inl ⟨rfl, rfl⟩⟩
  · injection h1 with h1 h1' h1''; subst h1 h1''
    refine ⟨by rw [List.length_take, h0]; omega, .inr ⟨g, cap, cur, rfl, h2, h3, by omega, h5, h6, ?_⟩⟩
    rw [← h7, List.take_take]; congr 1; omega
set_option maxRecDepth 100000 in
set_option maxHeartbeats 1000000 in
theorem dropZeros_any (B b : Nat) (r : ByteArray) (k : BL) (w : World) (h : Rd B w b r k) (hk : k.length ≤ 100000) :
    Calls Tryz.prog 64 #[.pointer (some ⟨b, 1, none⟩)] w fun e w' => e = .returned (.tuple #[]) ∧ Rd B w' b r (dz k) ∧ Below B w w' := by
  have hlt := h.lt
  obtain ⟨hB, sp, cap, hrow, hown⟩ := h
  have HR := Lib.hid hrow; have HO := Lib.hid hown
  have h1 : w.cell? ⟨b, 1, none⟩ = some (.slice sp k.length cap) := by rw [cell_of_row w b 1 _ _ _ hrow]; rfl
  have hf1 : w.frozen? ⟨b, 1, none⟩ = false := frozen_of_row w b 1 _ _ hrow
  have HP := Lib.hid (own_preV hown (dz k).length (dz_le k))
  have HDP := Lib.hid (dz_pre k)
  have done : ∀ w', w' = w.setCell ⟨b, 1, none⟩ (.slice sp (dz k).length cap) → Rd B w' b r (dz k) ∧ Below B w w' := by
    rintro w' rfl
    refine ⟨⟨hB, sp, cap, ?_, ?_⟩, (Below.refl _ _).setCell hB _⟩
    · rw [heap_setCell_same w b 1 _ _ _ HR.out]; rfl
    · have := own_keptV (w' := w.setCell ⟨b, 1, none⟩ (.slice sp (dz k).length cap)) HP.out (fun k hk _ => heap_setCell_other w ⟨b, 1, none⟩ k _ (by show k ≠ b; omega))
      rw [show Lib.byteCells (dz k) = (Lib.byteCells k).take (dz k).length by unfold Lib.byteCells; rw [← List.map_take, ← dz_pre k]]
      exact this
  have DONE := Lib.hid done; clear done
  by_cases h0 : k.length = 0
  · have hkn : k = [] := List.eq_nil_of_length_eq_zero h0
    subst hkn
    have e0 : ([] : BL).length = 0 := rfl
    have e1 : dz [] = [] := rfl
    rw [e1, e0] at DONE
    rw [e0] at h1
    have HC := Lib.hid (fun w => trimRight_none sp cap w)
    clear hown hrow e0 e1 h0 hk
    go_enter Tryz.func64, Tryz.ntmps64
    go_wp2_with fail
    refine (HC.out _).mono ?_
    rintro e w' ⟨rfl, rfl⟩
    go_wp2_with fail
    go_end0
    obtain ⟨d1, d2⟩ := DONE.out _ rfl
    exact ⟨rfl, d1, d2⟩
  · obtain ⟨g, rfl, hcap, hcm, hcell⟩ : ∃ g, sp = some ⟨g, 0, none⟩ ∧ k.length ≤ cap ∧ cap ≤ 9223372036854775807 ∧ ∀ i, ∀ h : i < k.length, w.cell? ⟨g, 0 + i, none⟩ = some (.int .u8 (k[i].toNat : Int)) := by
      obtain ⟨q0, ⟨q1, q2⟩ | ⟨g, cap', cur, q1, q2, q3, q4, q5, q6, q7⟩⟩ := id hown
      · injection q1 with _ q1 _; exact absurd q1 h0
      · injection q1 with q1 _ q1'
        subst q1 q1'
        refine ⟨g, rfl, q4, by unfold maxLen at q5; exact q5, fun i hi => ?_⟩
        have := hown.cells (g := g) rfl i (.int .u8 (k[i].toNat : Int)) (by unfold Lib.byteCells; rw [List.getElem?_map, List.getElem?_eq_getElem hi]; rfl)
        rwa [Addr.add_mid] at this
    have HC := Lib.hid (trimRight_any g 0 cap k w hcell (by omega) hcap hcm (by omega))
    generalize (dz k).length = m at *
    obtain ⟨n, hn⟩ : ∃ n, k.length = n := ⟨_, rfl⟩
    rw [hn] at h1 HC
    clear hown hrow h0 hcell hcap hcm hn
    go_enter Tryz.func64, Tryz.ntmps64
    go_wp2_with fail
    refine HC.out.mono ?_
    rintro e w' ⟨rfl, -, rfl⟩
    go_wp2_with fail
    go_end0
    obtain ⟨d1, d2⟩ := DONE.out _ rfl
    exact ⟨rfl, d1, d2⟩
end Go.Proofs.YtceeilojcifgeaaGreatDoor
