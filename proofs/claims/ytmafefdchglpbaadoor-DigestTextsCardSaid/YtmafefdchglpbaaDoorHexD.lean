/-
  The walk of digest.unhex (condition: the slice is a whole array's row of bytes of the program's own).
-/
import Derived.Test.YtmafefdchglpbaaDoorHexM
namespace Go.Proofs.YtmafefdchglpbaaDoor
open Go.RowKit

set_option maxHeartbeats 400000 in
set_option maxRecDepth 100000 in
theorem indexByteLite_anyH (s : ByteArray) (c : Int) (w : World) :
    Calls Tryd.prog 73 #[.string s, .int .u8 c] w fun e w' => e = .returned (.int .i64 (Lib.indexByte s.data.toList c.toNat.toUInt8)) ∧ w = w' := by
  go_enter Tryd.func73, Tryd.ntmps73
  go_wp2
  rw [run_callFunc_extern Tryd.func93 (by kernel_rfl) (by kernel_rfl) (by kernel_rfl) (e := Extern.BytealgIndexByte.indexByte) (by kernel_rfl), Lib.run_indexByteString]
  simp only [Result.andThen]
  rw [Oper.upon_value]
  go_wp2
  go_ret
  exact ⟨rfl, rfl⟩
set_option maxHeartbeats 400000 in
theorem indexByte_anyH (s : ByteArray) (c : Int) (w : World) :
    Calls Tryd.prog 51 #[.string s, .int .u8 c] w fun e w' => e = .returned (.int .i64 (Lib.indexByte s.data.toList c.toNat.toUInt8)) ∧ w = w' := by
  go_enter Tryd.func51, Tryd.ntmps51
  go_wp2_with (go_at_call 73; refine (indexByteLite_anyH _ _ _).mono ?_; rintro e w' ⟨rfl, rfl⟩)
  go_ret
  exact ⟨rfl, rfl⟩
theorem byteOfH (c : UInt8) : ((c.toNat : Int)).toNat.toUInt8 = c := by simp
theorem hexlIdx (c : UInt8) (w : World) :
    Calls Tryd.prog 51 #[.string ⟨#[48, 49, 50, 51, 52, 53, 54, 55, 56, 57, 97, 98, 99, 100, 101, 102]⟩, .int .u8 (c.toNat : Int)] w fun e w' => e = .returned (.int .i64 (if hexv c = 16 then -1 else (hexv c : Int))) ∧ w = w' :=
  (indexByte_anyH _ _ w).mono fun e w' ⟨he, hw⟩ => ⟨by rw [he, byteOfH, ← index_hexl]; rfl, hw⟩

theorem getD_data (s : ByteArray) (i : Nat) (h : i < s.size) : s.data.toList.getD i 0 = s[i] := by
  rw [List.getD_eq_getElem?_getD, List.getElem?_eq_getElem (by simpa using h)]; rfl
set_option maxRecDepth 100000 in
set_option maxHeartbeats 1000000 in
theorem unhex_any (g : Nat) (ty : TypeId) (L0 : List Int) (n : Nat) (s : ByteArray) (w : World) (hrow : RowIn w g ty .u8 L0) (hl : L0.length = n) (hn : n ≤ 64) :
    Calls Tryd.prog 36 #[.slice (some ⟨g, 0, none⟩) n n, .string s] w fun e w' => ∃ L : List Int, e = .returned (.bool (decide (s.size = 2 * n) && hok s.data.toList n)) ∧ L.length = n ∧ RowIn w' g ty .u8 L ∧ w.grownBy w' (some g) ∧ ((decide (s.size = 2 * n) && hok s.data.toList n) = true → L = hbs s.data.toList n) := by
  have HR := Lib.hid hrow; have HL := Lib.hid hl; clear hrow hl
  by_cases hsz : s.size = 2 * n
  · have HSZ := Lib.hid hsz
    have ht : ((s.size : Int) != 2 * (n : Int)) = false := by rw [bne_eq_false_iff_eq]; omega
    go_enter Tryd.func36, Tryd.ntmps36
    go_wp2_with fail
    go_loopw [16] (fun i wr => ∃ k : Nat, k ≤ n ∧ i = .int .i64 k ∧ Hid (hok s.data.toList k = true) ∧ Hid (RowIn wr g ty .u8 (hbs s.data.toList k ++ L0.drop k)) ∧ Hid (w.grownBy wr (some g))) (fun i _ => n - (intOf i).toNat)
    case atStart => exact ⟨0, by omega, rfl, rfl, HR.out, World.grownBy.refl _ _⟩
    case round =>
      obtain ⟨k, hk, rfl, hok0, hrow, hgr⟩ := hrel
      by_cases hlt : k < n
      · have hd : decide ((k : Int) < (n : Int)) = true := by simp; omega
        have p0 : 2 * k < s.size := by omega
        have p1 : 2 * k + 1 < s.size := by omega
        have p2 : (0 : Int) ≤ (k : Int) := by omega
        have p3 : (k : Int) < (n : Int) := by omega
        have p4 : (0 : Int) ≤ 2 * (k : Int) := by omega
        have p5 : 2 * (k : Int) < (s.size : Int) := by omega
        have p6 : (0 : Int) ≤ 2 * (k : Int) + 1 := by omega
        have p7 : 2 * (k : Int) + 1 < (s.size : Int) := by omega
        have p8 : (2 * (k : Int)).toNat = 2 * k := by omega
        have p9 : (2 * (k : Int) + 1).toNat = 2 * k + 1 := by omega
        have c0 := hrow.out.get k (by rw [way_length _ _ n k HL.out hk]; exact hlt)
        have f0 := hrow.out.free k
        obtain ⟨y, hy⟩ : ∃ y, (hbs s.data.toList k ++ L0.drop k).getD k 0 = y := ⟨_, rfl⟩
        rw [hy] at c0
        clear hy
        have g0 := getD_data s (2 * k) p0
        have g1 := getD_data s (2 * k + 1) p1
        have hl0 := hexv_le s[2 * k]
        have hl1 := hexv_le s[2 * k + 1]
        obtain ⟨x, hx⟩ : ∃ x, hexv s[2 * k] = x := ⟨_, rfl⟩
        obtain ⟨z, hz⟩ : ∃ z, hexv s[2 * k + 1] = z := ⟨_, rfl⟩
        have HO1 : Hid (hok1 s.data.toList k = (decide (x < 16) && decide (z < 16))) := by show _ = _; unfold hok1; rw [g0, g1, hx, hz]
        have HBY : Hid (hby s.data.toList k = ((16 * x + z : Nat) : Int)) := by show _ = _; unfold hby; rw [g0, g1, hx, hz]
        have HC0 := Lib.hid (fun w => hexlIdx s[2 * k] w)
        have HC1 := Lib.hid (fun w => hexlIdx s[2 * k + 1] w)
        rw [hx] at HC0 hl0
        rw [hz] at HC1 hl1
        have HSET := Lib.hid (way_set s.data.toList L0 n k HL.out hlt)
        have HSUC := Lib.hid (hok_succ s.data.toList k)
        clear g0 g1 hx hz
        have HROW := hrow; have HGR := hgr; clear hrow hgr
        by_cases hbad : x = 16 ∨ z = 16
        · have HF : Hid ((decide (s.size = 2 * n) && hok s.data.toList n) = false) := by
            show _ = _
            rw [hok_bad (k := k) (by rw [HO1.out]; rcases hbad with h | h <;> simp [h]) hlt, Bool.and_false]
          have HWL := Lib.hid (way_length s.data.toList L0 n k HL.out hk)
          have main : ∀ (hi lo : Int), (if x = 16 then (-1 : Int) else (x : Int)) = hi → (if z = 16 then (-1 : Int) else (z : Int)) = lo → hi < 0 ∨ (¬ hi < 0 ∧ lo < 0) := by
            intro hi lo h1 h2
            rcases hbad with h | h
            · left; rw [if_pos h] at h1; omega
            · by_cases hh : x = 16
              · left; rw [if_pos hh] at h1; omega
              · right; rw [if_neg hh] at h1; rw [if_pos h] at h2; exact ⟨by omega, by omega⟩
          obtain ⟨hi, hhi⟩ : ∃ v, (if x = 16 then (-1 : Int) else (x : Int)) = v := ⟨_, rfl⟩
          obtain ⟨lo, hlo⟩ : ∃ v, (if z = 16 then (-1 : Int) else (z : Int)) = v := ⟨_, rfl⟩
          have hm := main hi lo hhi hlo
          rw [hhi] at HC0
          rw [hlo] at HC1
          clear main hhi hlo hbad HO1 HBY HSET HSUC
          rcases hm with hn0 | ⟨hn0, hn1⟩
          · have e1 : decide (hi < 0) = true := by simp; omega
            go_wp2_with fail
            refine (HC0.out _).mono ?_
            rintro e w5 ⟨rfl, rfl⟩
            go_wp2_with fail
            refine (HC1.out _).mono ?_
            rintro e w5 ⟨rfl, rfl⟩
            go_wp2_with fail
            go_ret
            exact ⟨_, by rw [HF.out]; rfl, HWL.out, HROW.out, HGR.out, fun h => by rw [HF.out] at h; cases h⟩
          · have e1 : decide (hi < 0) = false := by simp; omega
            have e2 : decide (lo < 0) = true := by simp; omega
            go_wp2_with fail
            refine (HC0.out _).mono ?_
            rintro e w5 ⟨rfl, rfl⟩
            go_wp2_with fail
            refine (HC1.out _).mono ?_
            rintro e w5 ⟨rfl, rfl⟩
            go_wp2_with fail
            go_ret
            exact ⟨_, by rw [HF.out]; rfl, HWL.out, HROW.out, HGR.out, fun h => by rw [HF.out] at h; cases h⟩
        · have hx16 : x < 16 := by omega
          have hz16 : z < 16 := by omega
          rw [if_neg (by omega)] at HC0 HC1
          have HOK : Hid (hok s.data.toList (k + 1) = true) := by show _ = _; rw [HSUC.out, hok0.out, HO1.out, decide_eq_true hx16, decide_eq_true hz16]; rfl
          have hor := or_hexl x z hx16 hz16
          obtain ⟨m, hm⟩ : ∃ m, 16 * x + z = m := ⟨_, rfl⟩
          rw [hm] at HBY hor
          have hm256 : m < 256 := by omega
          have hw1 : ((m : Nat) : Int) % 256 = (m : Int) := by omega
          have e1 : decide ((x : Int) < 0) = false := by simp
          have e2 : decide ((z : Int) < 0) = false := by simp
          clear HO1 HSUC hbad hm
          go_wp2_with fail
          refine (HC0.out _).mono ?_
          rintro e w5 ⟨rfl, rfl⟩
          go_wp2_with fail
          refine (HC1.out _).mono ?_
          rintro e w5 ⟨rfl, rfl⟩
          go_wp2_with fail
          go_roundw
          case rel =>
            refine ⟨k + 1, by omega, by go_num, HOK, ?_, grown_set HGR.out _ _⟩
            have := HROW.out.put k (hby s.data.toList k)
            rw [HSET.out, HBY.out] at this
            exact this
          case measure => simp [intOf]; omega
      · obtain rfl : k = n := by omega
        have hd : decide ((k : Int) < (k : Int)) = false := by simp
        have hall : hbs s.data.toList k ++ L0.drop k = hbs s.data.toList k := by rw [List.drop_eq_nil_of_le (by rw [HL.out]; exact Nat.le_refl _), List.append_nil]
        have HROW := hrow.out; rw [hall] at HROW
        have HT : Hid ((decide (s.size = 2 * k) && hok s.data.toList k) = true) := by show _ = _; rw [hok0.out, decide_eq_true hsz]; rfl
        have HRR := Lib.hid HROW; clear HROW hall hrow hsz
        go_wp2_with fail
        go_ret
        exact ⟨_, by rw [HT.out]; rfl, hbs_length _ _, HRR.out, hgr.out, fun _ => rfl⟩
  · have ht : ((s.size : Int) != 2 * (n : Int)) = true := by rw [bne_iff_ne]; omega
    have hz : (decide (s.size = 2 * n) && hok s.data.toList n) = false := by rw [decide_eq_false hsz]; rfl
    rw [hz]
    clear hz hsz
    go_enter Tryd.func36, Tryd.ntmps36
    go_wp2
    go_ret
    exact ⟨L0, rfl, HL.out, HR.out, World.grownBy.refl _ _, fun h => by cases h⟩
end Go.Proofs.YtmafefdchglpbaaDoor
