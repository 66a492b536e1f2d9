/-
  The walks of the reference's value and Unword: which word an encoded form stands for (for every string of at most 2^40 bytes).
-/
import Derived.Test.YtmafefdchglpbaaDoorDocU
import Derived.Test.YtmafefdchglpbaaDoorDocR
import Derived.IntWalk
namespace Go.Proofs.YtmafefdchglpbaaDoor
open Go.RowKit

set_option maxHeartbeats 400000 in
theorem value_any (c : UInt8) (w : World) :
    Calls Tryd.prog 68 #[.int .u8 (c.toNat : Int)] w fun e w' => e = .returned (.int .i64 (hexV c : Int)) ∧ w = w' := by
  have hc : c.toNat < 256 := UInt8.toNat_lt _
  have HV := Lib.hid (show hexV c = if 48 ≤ c.toNat ∧ c.toNat ≤ 57 then c.toNat - 48 else if 65 ≤ c.toNat ∧ c.toNat ≤ 70 then c.toNat - 55 else 16 from rfl)
  generalize hexV c = v at *
  generalize c.toNat = n at *
  by_cases h1 : 48 ≤ n ∧ n ≤ 57
  · rw [if_pos h1] at HV
    obtain ⟨h1a, h1b⟩ := h1
    go_enter Tryd.func68, Tryd.ntmps68
    go_wp2
    go_ret
    exact ⟨ret_int (by rw [HV.out]; omega), rfl⟩
  · rw [if_neg h1] at HV
    by_cases h2 : 65 ≤ n ∧ n ≤ 70
    · rw [if_pos h2] at HV
      obtain ⟨h2a, h2b⟩ := h2
      clear h1
      go_enter Tryd.func68, Tryd.ntmps68
      go_wp2
      go_ret
      exact ⟨ret_int (by rw [HV.out]; omega), rfl⟩
    · rw [if_neg h2] at HV
      go_enter Tryd.func68, Tryd.ntmps68
      go_wp2
      all_goals first
        | (exfalso; omega)
        | (go_ret; exact ⟨ret_int (by rw [HV.out]; rfl), rfl⟩)

theorem quietD {P : Program} {f : FuncId} {args : Array Value} {w : World} {n : Nat} {v : Value}
    (h : Calls P f args (w.drewN n) fun e w' => e = .returned v ∧ w.drewN n = w') : Calls P f args (w.drewN n) fun e w'' => e = .returned v ∧ ∃ m, w'' = w.drewN m :=
  h.mono fun _ _ ⟨he, hm⟩ => ⟨he, n, hm.symm⟩
theorem esc_short {s : ByteArray} {k : Nat} (h : s.size < k + 3) : escD (s.data.toList.drop (k + 1)) = none := by
  have hl : (s.data.toList.drop (k + 1)).length < 2 := by rw [List.length_drop, ← Lib.size_eq]; omega
  match s.data.toList.drop (k + 1), hl with
  | [], _ => rfl
  | [_], _ => rfl
theorem esc_long {s : ByteArray} {k : Nat} (h : k + 3 ≤ s.size) : escD (s.data.toList.drop (k + 1)) = escV (s[k + 1]'(by omega)) (s[k + 2]'(by omega)) := by
  rw [drop_cons_data s (k + 1) (by omega), drop_cons_data s (k + 2) (by omega)]; rfl

set_option maxRecDepth 100000 in
set_option maxHeartbeats 1000000 in
theorem refUnword_any (s : ByteArray) (w : World) (hs : s.size ≤ 1099511627776) :
    Calls Tryd.prog 44 #[.string s] w (UnwRes (unword s.data.toList) w) := by
  by_cases h0 : s.size = 0
  · have HR := Lib.hid (show unword s.data.toList = none by rw [data_nil_of h0]; rfl)
    have e0 : s.toList = [] := by rw [Lib.toList_data]; exact data_nil_of h0
    generalize unword s.data.toList = r at *
    clear h0
    go_enter Tryd.func44, Tryd.ntmps44
    go_wp2_with fail
    go_ret2
    exact ⟨by rw [HR.out]; rfl, Below.refl _ _⟩
  · have hne := data_ne_of h0
    have e0 : s.toList.isEmpty = false := by
      rw [Lib.toList_data, List.isEmpty_eq_false_iff]; exact hne
    by_cases ht : s.data.toList = [126]
    · have HR := Lib.hid (show unword s.data.toList = some [] by rw [ht]; rfl)
      have e1 : (s.toList == [126]) = true := by rw [Lib.toList_data, ht]; rfl
      generalize unword s.data.toList = r at *
      clear h0 hne ht
      go_enter Tryd.func44, Tryd.ntmps44
      go_wp2_with fail
      go_ret2
      exact ⟨by rw [HR.out]; rfl, Below.refl _ _⟩
    · have HR := Lib.hid (show unword s.data.toList = (unwL (s.data.toList.drop 0)).map ([] ++ ·) by
        unfold unword; rw [if_neg hne, if_neg ht, List.drop_zero]; simp)
      have e1 : (s.toList == [126]) = false := by rw [Lib.toList_data, beq_eq_false_iff_ne]; exact ht
      generalize unword s.data.toList = r at *
      obtain ⟨i0, hi0, hz0, hz1, hz2⟩ := info_parts Tryd.info5
      have HI0 := Lib.hid hi0; have HZ0 := Lib.hid hz0; have HZ1 := Lib.hid hz1; have HZ2 := Lib.hid hz2
      clear hi0 hz0 hz1 hz2 h0 hne ht
      go_enter Tryd.func44, Tryd.ntmps44
      go_wp2_with fail
      go_loopw [4, 5] (fun v i wr => ∃ (k : Nat) (acc : List UInt8), k ≤ s.size ∧ i = .int .i64 k ∧ acc.length ≤ k ∧ Hid (r = (unwL (s.data.toList.drop k)).map (acc ++ ·)) ∧ Hid (wr.ownsRow w.heap.size 5 1 v acc.length (Lib.byteCells acc)) ∧ Below w.heap.size w wr) (fun _ i _ => s.size - (intOf i).toNat)
      case atStart => exact ⟨0, [], by omega, rfl, by simp, HR.out, World.ownsRow_nil _ _ _ _, Below.refl _ _⟩
      case round =>
        clear HR
        obtain ⟨k, acc, hk, rfl, hal, HA, hown, hbe⟩ := hrel
        have hbs := hbe.size
        by_cases hlt : k < s.size
        · cases hp : plnB (s[k].toNat)
          · by_cases h37 : s[k] = 37
            · have b37 : ((s[k].toNat : Int) == 37) = true := by rw [h37]; rfl
              have b37n : ((s[k].toNat : Int) != 37) = false := by rw [h37]; rfl
              by_cases h3 : s.size < k + 3
              · have HN := Lib.hid (unw_step_bad hlt HA.out h37 (esc_short h3))
                have HP := Lib.hid hp; clear hp h37 HA
                go_wp2_with (go_at_call 67; refine (refPlain_any _ _).mono ?_; rintro e w' ⟨rfl, rfl⟩; rw [HP.out])
                go_ret2
                exact ⟨by rw [HN.out]; rfl, hbe⟩
              · have hk1 : k + 1 < s.size := by omega
                have hk2 : k + 2 < s.size := by omega
                have HEL := Lib.hid (esc_long (s := s) (k := k) (by omega))
                have HB := Lib.hid (fun h => unw_step_bad hlt HA.out h37 h)
                have HY := Lib.hid (fun v h => unw_step_esc (v := v) hlt HA.out h37 h)
                have hl0 := hexV_le s[k + 1]
                have hl1 := hexV_le s[k + 2]
                have HV := Lib.hid (show escV s[k + 1] s[k + 2] = if hexV s[k + 1] = 16 ∨ hexV s[k + 2] = 16 then none else if plnB ((16 * hexV s[k + 1] + hexV s[k + 2] : Nat) : Int) then none else some (UInt8.ofNat (16 * hexV s[k + 1] + hexV s[k + 2])) from rfl)
                have HP := Lib.hid hp; clear hp h37 HA
                have q1 : IntKind.i64.wrap ((k : Int) + 1) = (k : Int) + 1 := IntWalk.i64_in _ (by omega)
                have q2 : IntKind.i64.wrap ((k : Int) + 2) = (k : Int) + 2 := IntWalk.i64_in _ (by omega)
                have q3 : (0 : Int) ≤ (k : Int) + 1 := by omega
                have q4 : (0 : Int) ≤ (k : Int) + 2 := by omega
                have q5 : ((k : Int) + 1).toNat = k + 1 := by omega
                have q6 : ((k : Int) + 2).toNat = k + 2 := by omega
                have q7 : (k : Int) + 1 < (s.size : Int) := by omega
                have q8 : (k : Int) + 2 < (s.size : Int) := by omega
                go_wp2_with (go_at_call 67; refine (refPlain_any _ _).mono ?_; rintro e w' ⟨rfl, rfl⟩; rw [HP.out])
                go_quiet ((go_at_call 68; exact quietD (value_any _ _)))
                generalize s[k + 1] = b1 at *
                generalize s[k + 2] = b2 at *
                clear q1 q2 q3 q4 q5 q6 q7 q8
                generalize hexV b1 = x at *
                generalize hexV b2 = y at *
                generalize escD (s.data.toList.drop (k + 1)) = ed at *
                generalize escV b1 b2 = ev at *
                generalize hwq : wr.drewN _ = wq
                have hownq : Hid (wq.ownsRow w.heap.size 5 1 u4 acc.length (Lib.byteCells acc)) := by show World.ownsRow _ _ _ _ _ _ _; rw [← hwq]; exact hown.out
                have hbq : Below w.heap.size w wq := by rw [← hwq]; exact below_drewN hbe _
                have hbsq := hbq.size
                clear hwq hown hbe hbs
                by_cases hx : x = 16
                · have HN : Hid (r = none) := HB.out (by rw [HEL.out, HV.out, if_pos (.inl hx)])
                  have bx : ((x : Int) == 16) = true := beq_iff_eq.2 (by omega)
                  clear hx
                  go_wp2_with fail
                  go_ret2
                  exact ⟨by rw [HN.out]; rfl, hbq⟩
                · have bx : ((x : Int) == 16) = false := beq_eq_false_iff_ne.2 (by omega)
                  by_cases hy : y = 16
                  · have HN : Hid (r = none) := HB.out (by rw [HEL.out, HV.out, if_pos (.inr hy)])
                    have by_ : ((y : Int) == 16) = true := beq_iff_eq.2 (by omega)
                    clear hy hx
                    go_wp2_with fail
                    go_ret2
                    exact ⟨by rw [HN.out]; rfl, hbq⟩
                  · have by_ : ((y : Int) == 16) = false := beq_eq_false_iff_ne.2 (by omega)
                    have hcast : ((16 * x + y : Nat) : Int) = 16 * (x : Int) + (y : Int) := by omega
                    have hlt2 : 16 * x + y < 256 := by omega
                    have HV2 : Hid (ed = if plnB (16 * (x : Int) + (y : Int)) then none else some (UInt8.ofNat (16 * x + y))) := by
                      show _ = _; rw [HEL.out, HV.out, if_neg (fun h => h.elim hx hy), hcast]
                    have hv : ((UInt8.ofNat (16 * x + y)).toNat : Int) = 16 * (x : Int) + (y : Int) := by
                      rw [UInt8.toNat_ofNat_of_lt' (by exact hlt2)]; omega
                    have HVV := Lib.hid hv
                    have hx15 : x ≤ 15 := by omega
                    have hy15 : y ≤ 15 := by omega
                    clear hcast hx hy hv
                    cases hp2 : plnB (16 * (x : Int) + (y : Int))
                    · rw [hp2] at HV2
                      obtain ⟨_, hn⟩ := HY.out (UInt8.ofNat (16 * x + y)) (by rw [HV2.out]; rfl)
                      have HN := Lib.hid hn
                      have HP2 := Lib.hid hp2; clear hp2 hn
                      generalize UInt8.ofNat (16 * x + y) = c at *
                      go_wp2_with (first
                        | (go_at_call 67; refine (refPlain_any _ _).mono ?_; rintro e w' ⟨rfl, rfl⟩; rw [HP2.out])
                        | (at_builtin; refine wpList_append_own _ rfl (.tmp 63) (.tmp 69) 34 rfl w.heap.size 5 i0 (.int .u8 0) 1 1 Tryd.underlying34 HI0.out HZ0.out HZ1.out HZ2.out rfl (by decide) _ _ _ rfl (hownq.out.alloc _) ⟨wq.heap.size, 0, none⟩ 1 1 [.int .u8 (16 * (x : Int) + (y : Int))] rfl rfl (cell_one_new _ _ _) (by intro u hu; simp at hu; subst hu; rfl) (by unfold maxLen; omega) (by omega) (by simp; omega) ?_; intro v' w1 hown1 hg1 _; have HO1 := Lib.hid hown1; clear hown1))
                      go_roundw
                      case rel =>
                        refine ⟨k + 3, acc ++ [c], by omega, by go_num, by simp; omega, HN.out, ?_, (hbq.alloc hbsq _).grown hg1 (by simp; omega) (own_base hownq.out)⟩
                        have := HO1.out
                        rw [← HVV.out] at this
                        show World.ownsRow _ _ _ _ _ _ _
                        simpa [Lib.byteCells_append, Lib.byteCells, Nat.add_assoc] using this
                      case measure => simp [intOf]; omega
                    · rw [hp2] at HV2
                      have HN : Hid (r = none) := HB.out (by rw [HV2.out]; rfl)
                      have HP2 := Lib.hid hp2; clear hp2
                      go_wp2_with (go_at_call 67; refine (refPlain_any _ _).mono ?_; rintro e w' ⟨rfl, rfl⟩; rw [HP2.out])
                      go_ret2
                      exact ⟨by rw [HN.out]; rfl, hbq⟩
            · have b37 : ((s[k].toNat : Int) != 37) = true := by
                rw [bne_iff_ne]; intro h; exact h37 (UInt8.toNat_inj.1 (by show s[k].toNat = 37; omega))
              have HN := Lib.hid (unw_step_other hlt HA.out hp h37)
              have HP := Lib.hid hp; clear hp h37 HA
              go_wp2_with (go_at_call 67; refine (refPlain_any _ _).mono ?_; rintro e w' ⟨rfl, rfl⟩; rw [HP.out])
              go_ret2
              exact ⟨by rw [HN.out]; rfl, hbe⟩
          · have HN := Lib.hid (unw_step_plain hlt HA.out hp)
            have HP := Lib.hid hp; clear hp HA
            go_wp2_with (first
              | (go_at_call 67; refine (refPlain_any _ _).mono ?_; rintro e w' ⟨rfl, rfl⟩; rw [HP.out])
              | (at_builtin; refine wpList_append_own _ rfl (.tmp 22) (.tmp 26) 34 rfl w.heap.size 5 i0 (.int .u8 0) 1 1 Tryd.underlying34 HI0.out HZ0.out HZ1.out HZ2.out rfl (by decide) _ _ _ rfl (hown.out.alloc _) ⟨wr.heap.size, 0, none⟩ 1 1 [.int .u8 (s[k].toNat : Int)] rfl rfl (cell_one_new _ _ _) (by intro u hu; simp at hu; subst hu; rfl) (by unfold maxLen; omega) (by omega) (by simp; omega) ?_; intro v' w1 hown1 hg1 _; have HO1 := Lib.hid hown1; clear hown1))
            go_roundw
            case rel =>
              refine ⟨k + 1, acc ++ [s[k]], by omega, by go_num, by simp; omega, HN.out, ?_, (hbe.alloc hbs _).grown hg1 (by simp; omega) (own_base hown.out)⟩
              have := HO1.out
              show World.ownsRow _ _ _ _ _ _ _
              simpa [Lib.byteCells_append, Lib.byteCells, Nat.add_assoc] using this
            case measure => simp [intOf]; omega
        · obtain rfl : k = s.size := by omega
          have HN := Lib.hid (unw_end HA.out)
          have hcv := run_string_own hown.out
          clear HA
          go_wp2_with fail
          go_ret2
          exact ⟨by rw [HN.out]; rfl, hbe⟩
end Go.Proofs.YtmafefdchglpbaaDoor
