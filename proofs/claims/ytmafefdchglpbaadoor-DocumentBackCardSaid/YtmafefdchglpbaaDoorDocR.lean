/-
  The walks of the reference's plain and Word: the encoded form of a word (for every string of at most 2^38 bytes).
-/
import Derived.Test.YtmafefdchglpbaaDoorDocW
namespace Go.Proofs.YtmafefdchglpbaaDoor
open Go.RowKit

set_option maxHeartbeats 400000 in
theorem refPlain_any (c : Int) (w : World) :
    Calls Tryd.prog 67 #[.int .u8 c] w fun e w' => e = .returned (.bool (plnB c)) ∧ w = w' := by
  by_cases h1 : 33 ≤ c
  · by_cases h2 : c ≤ 125
    · go_enter Tryd.func67, Tryd.ntmps67
      go_wp2
      go_ret
      exact ⟨ret_bool (by unfold plnB; rw [decide_eq_true h1, decide_eq_true h2]; rfl), rfl⟩
    · go_enter Tryd.func67, Tryd.ntmps67
      go_wp2
      go_ret
      exact ⟨ret_bool (by unfold plnB; rw [decide_eq_false (p := c ≤ _) (by omega)]; simp), rfl⟩
  · go_enter Tryd.func67, Tryd.ntmps67
    go_wp2
    go_ret
    exact ⟨ret_bool (by unfold plnB; rw [decide_eq_false (p := _ ≤ c) (by omega)]; simp), rfl⟩

set_option maxRecDepth 100000 in
set_option maxHeartbeats 1000000 in
theorem refWord_any (s : ByteArray) (w : World) (hlen : 3 * s.size + 1 ≤ 1099511627776) :
    Calls Tryd.prog 69 #[.string s] w fun e w' => e = .returned (.string ⟨(wordL s.data.toList).toArray⟩) ∧ Below w.heap.size w w' := by
  obtain ⟨i0, hi0, hz0, hz1, hz2⟩ := info_parts Tryd.info5
  have HI0 := Lib.hid hi0; have HZ0 := Lib.hid hz0; have HZ1 := Lib.hid hz1; have HZ2 := Lib.hid hz2
  clear hi0 hz0 hz1 hz2
  by_cases h0 : s.size = 0
  · have e0 : s.toList = [] := by rw [Lib.toList_data]; exact List.eq_nil_of_length_eq_zero (by rw [← Lib.size_eq]; exact h0)
    have HW := Lib.hid (show wordL s.data.toList = [126] by rw [← Lib.toList_data, e0]; rfl)
    generalize wordL s.data.toList = wl at *
    clear h0
    go_enter Tryd.func69, Tryd.ntmps69
    go_wp2_with fail
    go_ret
    exact ⟨by rw [HW.out]; rfl, Below.refl _ _⟩
  · have e0 : s.toList.isEmpty = false := by
      rw [Lib.toList_data, List.isEmpty_eq_false_iff]
      intro h; rw [Lib.size_eq, h] at h0; simp at h0
    have HW := Lib.hid (show wordL s.data.toList = (s.data.toList.take s.size).flatMap encB by
      unfold wordL; rw [take_all_data, if_neg (by intro h; rw [Lib.size_eq, h] at h0; simp at h0)])
    generalize wordL s.data.toList = wl at *
    clear h0
    go_enter Tryd.func69, Tryd.ntmps69
    go_wp2_with fail
    go_loopw [4, 5] (fun b i wr => ∃ k : Nat, k ≤ s.size ∧ i = .int .i64 k ∧ Hid (wr.ownsRow w.heap.size 5 1 b ((s.data.toList.take k).flatMap encB).length (Lib.byteCells ((s.data.toList.take k).flatMap encB))) ∧ Below w.heap.size w wr) (fun _ i _ => s.size - (intOf i).toNat)
    case atStart => exact ⟨0, by omega, rfl, World.ownsRow_nil _ _ _ _, Below.refl _ _⟩
    case round =>
      obtain ⟨k, hk, rfl, hown, hbe⟩ := hrel
      by_cases hlt : k < s.size
      · have HS := Lib.hid (flat_succ s k hlt)
        have hle := flat_le (s.data.toList.take k)
        have hle2 : (s.data.toList.take k).length ≤ k := List.length_take_le _ _
        have hbs := hbe.size
        generalize (s.data.toList.take k).flatMap encB = fl at *
        cases hp : plnB (s[k].toNat)
        · have HK := Lib.hid (encB_esc hp)
          have HP := Lib.hid hp; clear hp
          have hc256 : s[k].toNat < 256 := UInt8.toNat_lt _
          have hx1 := hex_index (s[k].toNat / 16) (by omega)
          have hx2 := hex_index (s[k].toNat % 16) (by omega)
          rw [show ((s[k].toNat / 16 : Nat) : Int) = (s[k].toNat : Int) / 16 by omega] at hx1
          rw [show ((s[k].toNat % 16 : Nat) : Int) = (s[k].toNat : Int) % 16 by omega] at hx2
          have hand := and15 s[k]
          have hk0 : (0 : Int) ≤ (k : Int) := by omega
          have hk1 : (k : Int) < (s.size : Int) := by omega
          go_wp2_with (go_at_call 67; refine (refPlain_any _ _).mono ?_; rintro e w' ⟨rfl, rfl⟩; rw [HP.out])
          go_region_held3 (fun _ => True) (trivial) ((refine step_append_own rfl (.tmp 24) (.tmp 37) 34 (by rfl) w.heap.size 5 i0 (.int .u8 0) 1 1 Tryd.underlying34 HI0.out HZ0.out HZ1.out HZ2.out rfl (by decide) _ _ _ (by rfl) (by exact (hown.out.alloc _).drew) ⟨wr.heap.size, 0, none⟩ 3 3 (Lib.byteCells [37, hexU (s[k].toNat / 16), hexU (s[k].toNat % 16)]) (by rfl) (by rfl) (by exact cells_newD _ _ _) (Lib.byteCells_one _) (by unfold maxLen; omega) (by omega) (by simp; omega) ?_; intro v' w1 hown1 hg1 _; have HO1 := Lib.hid hown1; clear hown1))
          all_goals
            go_wp2
            go_roundw
            case rel =>
              refine ⟨k + 1, by omega, by go_num, ?_, ?_⟩
              · rw [HS.out, HK.out]
                have := HO1.out
                show World.ownsRow _ _ _ _ _ _ _
                simpa [Lib.byteCells_append, Lib.byteCells, Nat.add_assoc] using this
              · exact ((hbe.alloc hbs _).drew).grown hg1 (by simp; omega) (own_base hown.out)
            case measure => simp [intOf]; omega
        · have HK := Lib.hid (encB_plain hp)
          have HP := Lib.hid hp; clear hp
          go_wp2_with (first
            | (go_at_call 67; refine (refPlain_any _ _).mono ?_; rintro e w' ⟨rfl, rfl⟩; rw [HP.out])
            | (at_builtin; refine wpList_append_own _ rfl (.tmp 18) (.tmp 22) 34 rfl w.heap.size 5 i0 (.int .u8 0) 1 1 Tryd.underlying34 HI0.out HZ0.out HZ1.out HZ2.out rfl (by decide) _ _ _ rfl (hown.out.alloc _) ⟨wr.heap.size, 0, none⟩ 1 1 [.int .u8 (s[k].toNat : Int)] rfl rfl (cell_one_new _ _ _) (by intro u hu; simp at hu; subst hu; rfl) (by unfold maxLen; omega) (by omega) (by simp; omega) ?_; intro v' w1 hown1 hg1 _; have HO1 := Lib.hid hown1; clear hown1))
          go_roundw
          case rel =>
            refine ⟨k + 1, by omega, by go_num, ?_, ?_⟩
            · rw [HS.out, HK.out]
              have := HO1.out
              show World.ownsRow _ _ _ _ _ _ _
              simpa [Lib.byteCells_append, Lib.byteCells, Nat.add_assoc] using this
            · exact (hbe.alloc hbs _).grown hg1 (by simp; omega) (own_base hown.out)
          case measure => simp [intOf]; omega
      · obtain rfl : k = s.size := by omega
        have hcv := run_string_own hown.out
        rw [← HW.out] at hcv
        go_wp2
        go_ret
        exact ⟨rfl, hbe⟩
end Go.Proofs.YtmafefdchglpbaaDoor
