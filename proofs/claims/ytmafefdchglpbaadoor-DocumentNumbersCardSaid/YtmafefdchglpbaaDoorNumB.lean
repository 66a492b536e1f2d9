/-
  The walk of the reference's ParseNumber: for every string.
-/
import Derived.Test.YtmafefdchglpbaaDoorNumA
namespace Go.Proofs.YtmafefdchglpbaaDoor
open Go.RowKit

theorem pnk_long {l : List UInt8} (h : 13 < l.length) : pnk l = false ∧ pnv l = 0 := by
  by_cases hz : lz l = true
  · exact pnk_no (.inr (.inl hz))
  · by_cases hd : l.all isD = true
    · have h0 : l ≠ [] := fun e => by rw [e] at h; exact absurd h (by decide)
      have hh : l.head? ≠ some 48 := fun e => hz (by unfold lz; rw [e, decide_eq_true rfl, decide_eq_true (by omega)]; rfl)
      have h1 := valL_big hd h0 hh
      have h2 : 10 ^ 13 ≤ 10 ^ (l.length - 1) := Nat.pow_le_pow_right (by omega) (by omega)
      exact pnk_no (.inr (.inr (.inr (by omega))))
    · exact pnk_no (.inr (.inr (.inl (by simpa using hd))))
set_option maxRecDepth 100000 in
set_option maxHeartbeats 1000000 in
theorem refParseNumber_any (s : ByteArray) (w : World) :
    Calls Tryd.prog 25 #[.string s] w fun e w' => e = .returned (.tuple #[.int .i64 (pnv s.data.toList), .bool (pnk s.data.toList)]) ∧ w = w' := by
  by_cases he : s.size = 0
  · have hl : s.data.toList = [] := List.eq_nil_of_length_eq_zero (by rw [← Lib.size_eq]; exact he)
    have HN := Lib.hid (pnk_no (l := s.data.toList) (.inl hl))
    have hl2 : s.toList = [] := by rw [Lib.toList_data]; exact hl
    clear hl he
    go_enter Tryd.func25, Tryd.ntmps25
    go_wp2_with fail
    go_ret2
    exact ⟨by rw [HN.out.1, HN.out.2]; rfl, rfl⟩
  have hne : s.data.toList ≠ [] := fun h => he (by rw [Lib.size_eq, h]; rfl)
  have hl : (s.toList == []) = false := by rw [Lib.toList_data, beq_eq_false_iff_ne]; exact hne
  have hl2 : ¬ s.toList = [] := by simpa using hl
  by_cases h13 : 13 < s.size
  · have HN := Lib.hid (pnk_long (l := s.data.toList) (by rw [← Lib.size_eq]; exact h13))
    have hd : decide ((s.size : Int) > 13) = true := by simp; omega
    clear hne he
    go_enter Tryd.func25, Tryd.ntmps25
    go_wp2_with fail
    go_ret2
    exact ⟨by rw [HN.out.1, HN.out.2]; rfl, rfl⟩
  have hd13 : decide ((s.size : Int) > 13) = false := by simp; omega
  have h0 : 0 < s.size := by omega
  have p0 : (0 : Int) < (s.size : Int) := by omega
  have hh := getD_byteN s 0 h0
  have hhd : s.data.toList.head? = some s[0] := by rw [← hh, List.head?_eq_getElem?]
  have hcs : (((s[0].toNat : Int) == 48) = true ∧ decide ((s.size : Int) > 1) = true ∧ lz s.data.toList = true) ∨ (((s[0].toNat : Int) == 48) = true ∧ decide ((s.size : Int) > 1) = false ∧ lz s.data.toList = false) ∨ (((s[0].toNat : Int) == 48) = false ∧ lz s.data.toList = false) := by
    have hsz := Lib.size_eq s
    by_cases h : s[0] = 48
    · have e1 : ((s[0].toNat : Int) == 48) = true := by rw [h]; rfl
      by_cases h2 : 1 < s.size
      · exact .inl ⟨e1, by simp; omega, by unfold lz; rw [hhd, h, decide_eq_true rfl, decide_eq_true (by omega)]; rfl⟩
      · exact .inr (.inl ⟨e1, by simp; omega, by unfold lz; rw [decide_eq_false (p := 1 < _) (by omega), Bool.and_false]⟩)
    · refine .inr (.inr ⟨?_, ?_⟩)
      · rw [beq_eq_false_iff_ne]; intro e; apply h; apply UInt8.toNat_inj.1; show s[0].toNat = 48; omega
      · unfold lz; rw [hhd, decide_eq_false (fun e => h (by simpa using e))]; rfl
  have HH := Lib.hid hne
  clear hh hhd hne
  rcases hcs with ⟨t1, t2, hz⟩ | hcs
  · have HN := Lib.hid (pnk_no (l := s.data.toList) (.inr (.inl hz)))
    clear hz
    go_enter Tryd.func25, Tryd.ntmps25
    go_wp2_with fail
    go_ret2
    exact ⟨by rw [HN.out.1, HN.out.2]; rfl, rfl⟩
  · have hz : lz s.data.toList = false := by rcases hcs with ⟨_, _, h⟩ | ⟨_, h⟩ <;> exact h
    have HZ := Lib.hid hz
    have hcs : (((s[0].toNat : Int) == 48) = true ∧ decide ((s.size : Int) > 1) = false) ∨ ((s[0].toNat : Int) == 48) = false := by
      rcases hcs with ⟨h1, h2, _⟩ | ⟨h1, _⟩
      · exact .inl ⟨h1, h2⟩
      · exact .inr h1
    have HPN : Hid (∀ h : s.data.toList.all isD = false ∨ 1099511627776 < valL s.data.toList, pnk s.data.toList = false ∧ pnv s.data.toList = 0) := fun h => pnk_no (.inr (.inr h))
    have HPY : Hid (∀ (h1 : s.data.toList.all isD = true) (h2 : valL s.data.toList ≤ 1099511627776), pnk s.data.toList = true ∧ pnv s.data.toList = (valL s.data.toList : Int)) := fun h1 h2 => pnk_yes HH.out HZ.out h1 h2
    have HLS := Lib.hid (Lib.size_eq s)
    clear hz
    rcases hcs with ⟨t1, t3⟩ | t1
    all_goals
      go_enter Tryd.func25, Tryd.ntmps25
      go_wp2_with fail
      go_loopw [4, 5] (fun v i wr => ∃ (k V : Nat), k ≤ s.size ∧ i = .int .i64 k ∧ v = .int .i64 V ∧ V < 10000000000000 ∧ Hid (V = valL (s.data.toList.take k)) ∧ Hid ((s.data.toList.take k).all isD = true) ∧ Hid (wr = w)) (fun _ i _ => s.size - (intOf i).toNat)
      case atStart => exact ⟨0, 0, Nat.zero_le _, rfl, rfl, by omega, rfl, rfl, rfl⟩
      case round =>
        obtain ⟨k, V, hk, rfl, rfl, hV, HV, HA, hw⟩ := hrel
        obtain rfl := hw.out
        clear hw
        by_cases hlt : k < s.size
        · have hd : decide ((k : Int) < (s.size : Int)) = true := by simp; omega
          have p1 : (0 : Int) ≤ (k : Int) := by omega
          have p2 : (k : Int) < (s.size : Int) := by omega
          have HG := Lib.hid (getD_byteN s k hlt)
          cases hc : isD s[k]
          · have HN := Lib.hid (HPN.out (.inl (all_take_no HG.out hc)))
            have hcs2 : decide ((s[k].toNat : Int) < 48) = true ∨ (decide ((s[k].toNat : Int) < 48) = false ∧ decide ((s[k].toNat : Int) > 57) = true) := by
              unfold isD at hc
              by_cases h1 : s[k].toNat < 48
              · exact .inl (by simp; omega)
              · refine .inr ⟨by simp; omega, ?_⟩
                rw [decide_eq_true (by omega), Bool.true_and, decide_eq_false_iff_not] at hc
                simp; omega
            clear hc HPN HPY
            rcases hcs2 with d1 | ⟨d1, d2⟩
            all_goals
              go_wp2_with fail
              go_ret2
              exact ⟨by rw [HN.out.1, HN.out.2]; rfl, rfl⟩
          · have hc2 := hc
            unfold isD at hc2
            simp only [Bool.and_eq_true, decide_eq_true_eq] at hc2
            have d1 : decide ((s[k].toNat : Int) < 48) = false := by simp; omega
            have d2 : decide ((s[k].toNat : Int) > 57) = false := by simp; omega
            have hva : valL (s.data.toList.take (k + 1)) = 10 * V + (s[k].toNat - 48) := by rw [take_byteN s k hlt, valL_snoc, ← HV.out]
            have hal : (s.data.toList.take (k + 1)).all isD = true := by rw [take_byteN s k hlt, List.all_append, HA.out, List.all_cons, hc]; rfl
            have hbd := valL_lt _ hal
            have hlen : (s.data.toList.take (k + 1)).length = k + 1 := by rw [List.length_take, ← HLS.out]; omega
            rw [hlen] at hbd
            have hp : 10 ^ (k + 1) ≤ 10 ^ 13 := Nat.pow_le_pow_right (by omega) (by omega)
            obtain ⟨m, hm⟩ : ∃ m, 10 * V + (s[k].toNat - 48) = m := ⟨_, rfl⟩
            have q1 : IntKind.i64.wrap (10 * (V : Int)) = 10 * (V : Int) := IntWalk.i64_in _ (by omega)
            have q2 : ((s[k].toNat : Int) - 48) % 256 = (s[k].toNat : Int) - 48 := by omega
            have q3 : 10 * (V : Int) + ((s[k].toNat : Int) - 48) = (m : Int) := by omega
            rw [hm] at hva
            have hm13 : m < 10000000000000 := by omega
            have q4 : IntKind.i64.wrap (m : Int) = (m : Int) := IntWalk.i64_in _ (by omega)
            have HVA := Lib.hid hva.symm; have HAL := Lib.hid hal
            clear hc hc2 hva hal hbd hlen hp hm HPN HPY
            go_wp2_with fail
            go_roundw
            case rel => exact ⟨k + 1, m, by omega, by go_num, rfl, hm13, HVA, HAL, by first | rfl | exact trivial⟩
            case measure => simp [intOf]; omega
        · obtain rfl : k = s.size := by omega
          have hd : decide ((s.size : Int) < (s.size : Int)) = false := by simp
          have htk : s.data.toList.take s.size = s.data.toList := List.take_of_length_le (by rw [← HLS.out]; exact Nat.le_refl _)
          have ha := HA.out; have hv := HV.out
          rw [htk] at ha hv
          by_cases hb : 1099511627776 < V
          · have hbd : decide ((V : Int) > 1099511627776) = true := by simp; omega
            have HN := Lib.hid (HPN.out (.inr (by rw [← hv]; exact hb)))
            clear htk ha hv HPN HPY
            go_wp2_with fail
            go_ret2
            exact ⟨by rw [HN.out.1, HN.out.2]; rfl, rfl⟩
          · have hbd : decide ((V : Int) > 1099511627776) = false := by simp; omega
            have HN := Lib.hid (HPY.out ha (by rw [← hv]; omega))
            have HV2 := Lib.hid hv
            clear htk ha hv HPN HPY
            go_wp2_with fail
            go_ret2
            exact ⟨by rw [HN.out.1, HN.out.2, ← HV2.out]; rfl, rfl⟩
end Go.Proofs.YtmafefdchglpbaaDoor
