/-
  The walk of the reference's Number: for every int64.
-/
import Derived.Test.YtdjknefbaclleaaGreatDoorNumA
import Derived.Lib.AppendStr
import Derived.Lib.UnsafeStr
import Derived.Laws.IdiomStrings
import Derived.Deep.MidRow
namespace Go.Proofs.YtdjknefbaclleaaGreatDoor
open Go.RowKit

theorem cat_ret (P S : ByteArray) : P ++ S = ⟨(P.data.toList ++ S.data.toList).toArray⟩ := by
  apply ByteArray.ext; simp
/-- the numeral, none for 0 -/
def dz (u : Nat) : List UInt8 := if u = 0 then [] else Lib.decDigits u
theorem dzN_step (u : Nat) (h : 0 < u) : dz u = dz (u / 10) ++ [UInt8.ofNat (48 + u % 10)] := by
  unfold dz
  rw [if_neg (by omega)]
  by_cases h10 : u < 10
  · rw [Lib.decDigits_one h10, if_pos (by omega), show u % 10 = u by omega]; rfl
  · rw [dec_step u h10, if_neg (by omega)]
set_option maxRecDepth 100000 in
set_option maxHeartbeats 1000000 in
theorem refNumber_any (n : Int) (h0 : -9223372036854775808 ≤ n) (h1 : n ≤ 9223372036854775807) (w : World) :
    Calls Tryz.prog 11 #[.int .i64 n] w fun e w' => e = .returned (.string ⟨(Lib.itoa n).toArray⟩) ∧ Below w.heap.size w w' := by
  by_cases hz : n = 0
  · subst hz
    have HI : Hid ((Lib.itoa 0) = [48]) := by show _ = _; rw [show (0 : Int) = ((0 : Nat) : Int) from rfl, Lib.itoa_nonneg, Lib.decDigits_one (by omega)]; rfl
    go_enter Tryz.func11, Tryz.ntmps11
    go_wp2_with fail
    go_ret
    exact ⟨by rw [HI.out]; rfl, Below.refl _ _⟩
  · have e0 : (n == 0) = false := by simpa using hz
    have hcs : ∃ u : Nat, u < 18446744073709551616 ∧ 0 < u ∧ ((decide (n < 0) = true ∧ IntKind.u64.wrap (-IntKind.u64.wrap n) = (u : Int) ∧ Lib.itoa n = 45 :: dz u) ∨ (decide (n < 0) = false ∧ n = (u : Int) ∧ Lib.itoa n = dz u)) := by
      by_cases hneg : n < 0
      · refine ⟨n.natAbs, by omega, by omega, .inl ⟨by simpa using hneg, ?_, ?_⟩⟩
        · show (-(n % 18446744073709551616)) % 18446744073709551616 = _; omega
        · unfold Lib.itoa dz; rw [if_pos hneg, if_neg (by omega)]
      · refine ⟨n.toNat, by omega, by omega, .inr ⟨by simp; omega, by omega, ?_⟩⟩
        unfold Lib.itoa dz; rw [if_neg hneg, if_neg (by omega)]
    obtain ⟨u0, hu, hu0, hcs⟩ := hcs
    clear h0 h1 hz
    have HST : Hid (∀ (wr : World) (c : UInt8), (convert 42 9 (.slice (some ⟨wr.heap.size, 0, none⟩) 1 1)).run Tryz.prog (wr.alloc (.cells #[.int .u8 (c.toNat : Int)] 5)) = .ok (.string ⟨#[c]⟩) (wr.alloc (.cells #[.int .u8 (c.toNat : Int)] 5))) := fun wr c => by
      refine run_convert_bytes_back _ 42 9 5 _ 1 [c] Tryz.underlying42 Tryz.underlying5 Tryz.underlying9 (fun j hj => ?_)
      have hj0 : j = 0 := by simp at hj; omega
      subst hj0
      rw [Addr.add_mid, cell_of_row _ wr.heap.size (0 + 0) _ _ (0, 0) (heap_alloc_new wr _)]; rfl
    rcases hcs with ⟨hd, hq, hi⟩ | ⟨hd, hq, hi⟩
    focus
      have HI := Lib.hid hi
      clear hi
      go_enter Tryz.func11, Tryz.ntmps11
      go_wp2_with fail
    rotate_left
    focus
      have HI := Lib.hid hi
      have HQ := Lib.hid hq
      clear hi
      subst hq
      go_enter Tryz.func11, Tryz.ntmps11
      go_wp2_with fail
    all_goals
      go_loopw [4, 5] (fun a b wr => ∃ (u : Nat) (S : ByteArray), a = .int .u64 u ∧ b = .string S ∧ S.size ≤ 20 ∧ u < 18446744073709551616 ∧ Hid (u < 10 ^ (20 - S.size)) ∧ Hid (dz u ++ S.data.toList = dz u0) ∧ Hid (Below w.heap.size w wr)) (fun a _ _ => (intOf a).toNat)
      case atStart => exact ⟨u0, ⟨#[]⟩, rfl, rfl, by show 0 ≤ 20; omega, hu, by show u0 < 10 ^ 20; omega, by show _ = _; simp, Below.refl _ _⟩
      case round =>
        obtain ⟨u, S, rfl, rfl, hS, hu2, HP, HD, hbe⟩ := hrel
        have hbs := hbe.out.size
        by_cases hlt : 0 < u
        · have hd2 : decide ((u : Int) > 0) = true := by simp; omega
          obtain ⟨c, hc⟩ : ∃ c : UInt8, c = UInt8.ofNat (48 + u % 10) := ⟨_, rfl⟩
          have hcn : c.toNat = 48 + u % 10 := by rw [hc, ofNat_toNat8 _ (by omega)]
          have q1 : 48 + (u : Int) % 10 = (c.toNat : Int) := by omega
          have q1' : 48 + Int.tmod (u : Int) 10 = (c.toNat : Int) := by rw [Int.tmod_eq_emod_of_nonneg (by omega)]; omega
          obtain ⟨v, hv⟩ : ∃ v, u / 10 = v := ⟨_, rfl⟩
          have q2 : (u : Int) / 10 = (v : Int) := by omega
          have q2' : Int.tdiv (u : Int) 10 = (v : Int) := by rw [Int.tdiv_eq_ediv_of_nonneg (by omega)]; omega
          have q3 : (c.toNat : Int) % 256 = (c.toNat : Int) := by omega
          have hrun := HST.out wr c
          have hS2 : S.size < 20 := by
            rcases Nat.lt_or_ge S.size 20 with h | h
            · exact h
            · have := HP.out
              rw [show 20 - S.size = 0 by omega] at this
              omega
          have HD2 : Hid (dz v ++ ((⟨#[c]⟩ : ByteArray) ++ S).data.toList = dz u0) := by
            show _ = _
            rw [← HD.out, dzN_step u hlt, ← hc, hv, List.append_assoc]
            congr 1
          have HP2 : Hid (v < 10 ^ (20 - (S.size + 1))) := by
            show _ < _
            have h1 := HP.out
            rw [show 20 - S.size = (20 - (S.size + 1)) + 1 by omega, Nat.pow_succ] at h1
            omega
          have hcat : (1 : Int) + (S.size : Int) ≤ 9223372036854775807 := by omega
          have hv2 : v < u := by omega
          clear hc hcn hv
          go_wp2_with fail
          go_roundw
          case rel =>
            have hsz : ((⟨#[c]⟩ : ByteArray) ++ S).size = S.size + 1 := by rw [ByteArray.size_append]; show 1 + S.size = _; omega
            refine ⟨v, (⟨#[c]⟩ : ByteArray) ++ S, rfl, rfl, by rw [hsz]; omega, by omega, ?_, HD2, hbe.out.alloc hbs _⟩
            rw [hsz]; exact HP2
          case measure => simp [intOf]; omega
        · obtain rfl : u = 0 := by omega
          have hd2 : decide (((0 : Nat) : Int) > 0) = false := by decide
          have HF : Hid (S.data.toList = dz u0) := HD.out
          have hcat : (1 : Int) + (S.size : Int) ≤ 9223372036854775807 := by omega
          clear HST
          go_wp2_with fail
          go_ret
          refine ⟨?_, hbe.out⟩
          rw [HI.out, ← HF.out]
          show Ending.returned (.string (_ ++ S)) = _
          rw [cat_ret]; rfl
end Go.Proofs.YtdjknefbaclleaaGreatDoor
