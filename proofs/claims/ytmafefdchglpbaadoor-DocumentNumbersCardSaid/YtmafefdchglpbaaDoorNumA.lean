/-
  The walk of document.ParseNumber: for every string.
-/
import Derived.Test.YtmafefdchglpbaaDoorDocA
import Derived.Test.YtmafefdchglpbaaDoorNumM
import Derived.IntWalk
namespace Go.Proofs.YtmafefdchglpbaaDoor
open Go.RowKit

theorem digB_isD (c : UInt8) : digB (c.toNat : Int) = isD c := by
  unfold digB isD
  congr 1 <;> (rw [decide_eq_decide]; omega)
theorem getD_byteN (s : ByteArray) (i : Nat) (h : i < s.size) : s.data.toList[i]? = some s[i] := by
  rw [List.getElem?_eq_getElem (by simpa using h)]; rfl
theorem take_byteN (s : ByteArray) (k : Nat) (h : k < s.size) : s.data.toList.take (k + 1) = s.data.toList.take k ++ [s[k]] := by
  rw [List.take_succ_eq_append_getElem (by simpa using h)]; rfl
theorem pnk_no {l : List UInt8} (h : l = [] ∨ lz l = true ∨ l.all isD = false ∨ 1099511627776 < valL l) : pnk l = false ∧ pnv l = 0 := by
  have h1 : pnk l = false := by
    unfold pnk
    rcases h with h | h | h | h
    · rw [decide_eq_true h]; rfl
    · rw [h]; simp
    · rw [h]; simp
    · rw [decide_eq_false (p := valL l ≤ 1099511627776) (by omega)]; simp
  exact ⟨h1, by unfold pnv; rw [h1]; rfl⟩
theorem pnk_yes {l : List UInt8} (h0 : l ≠ []) (hz : lz l = false) (hd : l.all isD = true) (hm : valL l ≤ 1099511627776) : pnk l = true ∧ pnv l = (valL l : Int) := by
  have h1 : pnk l = true := by unfold pnk; rw [decide_eq_false h0, hz, hd, decide_eq_true hm]; rfl
  exact ⟨h1, by unfold pnv; rw [if_pos h1]⟩
theorem all_take_no {l : List UInt8} {k : Nat} {c : UInt8} (h : l[k]? = some c) (hc : isD c = false) : l.all isD = false := by
  rw [List.all_eq_false]
  exact ⟨c, List.mem_of_getElem? h, by rw [hc]; simp⟩
theorem valL_take_le (l : List UInt8) (k : Nat) : valL (l.take k) ≤ valL l := by
  have := valL_mono (l.take k) (l.drop k)
  rwa [List.take_append_drop] at this
set_option maxRecDepth 100000 in
set_option maxHeartbeats 1000000 in
theorem ParseNumber_any (s : ByteArray) (w : World) (hmax : s.size ≤ 9223372036854775806) :
    Calls Tryd.prog 24 #[.string s] w fun e w' => e = .returned (.tuple #[.int .i64 (pnv s.data.toList), .bool (pnk s.data.toList)]) ∧ w = w' := by
  by_cases he : s.size = 0
  · have hl : s.data.toList = [] := List.eq_nil_of_length_eq_zero (by rw [← Lib.size_eq]; exact he)
    have HN := Lib.hid (pnk_no (l := s.data.toList) (.inl hl))
    have hl2 : s.toList = [] := by rw [Lib.toList_data]; exact hl
    clear hl he
    go_enter Tryd.func24, Tryd.ntmps24
    go_wp2_with fail
    go_ret2
    exact ⟨by rw [HN.out.1, HN.out.2]; rfl, rfl⟩
  have hne : s.data.toList ≠ [] := fun h => he (by rw [Lib.size_eq, h]; rfl)
  have hl : (s.toList == []) = false := by rw [Lib.toList_data, beq_eq_false_iff_ne]; exact hne
  have hl2 : ¬ s.toList = [] := by simpa using hl
  have h0 : 0 < s.size := by omega
  have p0 : (0 : Int) < (s.size : Int) := by omega
  have hh := getD_byteN s 0 h0
  have hhd : s.data.toList.head? = some s[0] := by rw [← hh, List.head?_eq_getElem?]
  have hcs : (((s[0].toNat : Int) == 48) = true ∧ (s.toList == [48]) = false ∧ lz s.data.toList = true) ∨ (((s[0].toNat : Int) == 48) = true ∧ (s.toList == [48]) = true ∧ lz s.data.toList = false) ∨ (((s[0].toNat : Int) == 48) = false ∧ lz s.data.toList = false) := by
    by_cases h : s[0] = 48
    · have e1 : ((s[0].toNat : Int) == 48) = true := by rw [h]; rfl
      by_cases h2 : s.toList = [48]
      · refine .inr (.inl ⟨e1, by rw [beq_iff_eq]; exact h2, ?_⟩)
        rw [Lib.toList_data] at h2; rw [h2]; rfl
      · refine .inl ⟨e1, by rw [beq_eq_false_iff_ne]; exact h2, ?_⟩
        rw [Lib.toList_data] at h2
        unfold lz
        rw [hhd, h, decide_eq_true rfl, Bool.true_and, decide_eq_true_eq]
        rcases hd : s.data.toList with _ | ⟨a, _ | ⟨b, r⟩⟩
        · exact absurd hd hne
        · rw [hd] at hhd h2; simp at hhd; exact absurd (by rw [hhd, h]) h2
        · simp
    · refine .inr (.inr ⟨?_, ?_⟩)
      · rw [beq_eq_false_iff_ne]; intro e; apply h; apply UInt8.toNat_inj.1; show s[0].toNat = 48; omega
      · unfold lz; rw [hhd, decide_eq_false (fun e => h (by simpa using e))]; rfl
  have HH := Lib.hid hne
  clear hh hhd hne
  rcases hcs with ⟨t1, t2, hz⟩ | hcs
  · have HN := Lib.hid (pnk_no (l := s.data.toList) (.inr (.inl hz)))
    have t3 : (!(s.toList == [48])) = true := by rw [t2]; rfl
    clear hz
    go_enter Tryd.func24, Tryd.ntmps24
    go_wp2_with fail
    go_ret2
    exact ⟨by rw [HN.out.1, HN.out.2]; rfl, rfl⟩
  · have hz : lz s.data.toList = false := by rcases hcs with ⟨_, _, h⟩ | ⟨_, h⟩ <;> exact h
    have HZ := Lib.hid hz
    have hcs : (((s[0].toNat : Int) == 48) = true ∧ (!(s.toList == [48])) = false) ∨ ((s[0].toNat : Int) == 48) = false := by
      rcases hcs with ⟨h1, h2, _⟩ | ⟨h1, _⟩
      · exact .inl ⟨h1, by rw [h2]; rfl⟩
      · exact .inr h1
    have HPN : Hid (∀ h : s.data.toList.all isD = false ∨ 1099511627776 < valL s.data.toList, pnk s.data.toList = false ∧ pnv s.data.toList = 0) := fun h => pnk_no (.inr (.inr h))
    have HPY : Hid (∀ (h1 : s.data.toList.all isD = true) (h2 : valL s.data.toList ≤ 1099511627776), pnk s.data.toList = true ∧ pnv s.data.toList = (valL s.data.toList : Int)) := fun h1 h2 => pnk_yes HH.out HZ.out h1 h2
    have HLS := Lib.hid (Lib.size_eq s)
    clear hz
    rcases hcs with ⟨t1, t3⟩ | t1
    all_goals
      go_enter Tryd.func24, Tryd.ntmps24
      go_wp2_with fail
      go_loopw [4, 19] (fun v i wr => ∃ (k V : Nat), k ≤ s.size ∧ i = .int .i64 k ∧ v = .int .i64 V ∧ V ≤ 1099511627776 ∧ Hid (V = valL (s.data.toList.take k)) ∧ Hid ((s.data.toList.take k).all isD = true) ∧ Hid (wr = w)) (fun _ i _ => s.size - (intOf i).toNat)
      case atStart => exact ⟨0, 0, Nat.zero_le _, rfl, rfl, by omega, rfl, rfl, rfl⟩
      case round =>
        obtain ⟨k, V, hk, rfl, rfl, hV, HV, HA, hw⟩ := hrel
        obtain rfl := hw.out
        clear hw
        by_cases hlt : k < s.size
        · have hd : decide ((k : Int) < (s.size : Int)) = true := by simp; omega
          have p1 : (0 : Int) ≤ (k : Int) := by omega
          have p2 : (k : Int) < (s.size : Int) := by omega
          have HG := Lib.hid (getD_byteN s k hlt)
          have HC := Lib.hid (fun w => digit_any (s[k].toNat : Int) w)
          rw [digB_isD] at HC
          cases hc : isD s[k]
          · have HN := Lib.hid (HPN.out (.inl (all_take_no HG.out hc)))
            rw [hc] at HC
            clear hc HPN HPY
            go_wp2_with fail
            refine (HC.out _).mono ?_
            rintro e w' ⟨rfl, rfl⟩
            go_wp2_with fail
            go_ret2
            exact ⟨by rw [HN.out.1, HN.out.2]; rfl, rfl⟩
          · rw [hc] at HC
            have hc2 := hc
            unfold isD at hc2
            simp only [Bool.and_eq_true, decide_eq_true_eq] at hc2
            have hva : valL (s.data.toList.take (k + 1)) = 10 * V + (s[k].toNat - 48) := by rw [take_byteN s k hlt, valL_snoc, ← HV.out]
            have hal : (s.data.toList.take (k + 1)).all isD = true := by rw [take_byteN s k hlt, List.all_append, HA.out, List.all_cons, hc]; rfl
            have hle := valL_take_le s.data.toList (k + 1)
            obtain ⟨m, hm⟩ : ∃ m, 10 * V + (s[k].toNat - 48) = m := ⟨_, rfl⟩
            have q1 : IntKind.i64.wrap (10 * (V : Int)) = 10 * (V : Int) := IntWalk.i64_in _ (by omega)
            have q2 : ((s[k].toNat : Int) - 48) % 256 = (s[k].toNat : Int) - 48 := by omega
            have q3 : 10 * (V : Int) + ((s[k].toNat : Int) - 48) = (m : Int) := by omega
            have q4 : IntKind.i64.wrap (m : Int) = (m : Int) := IntWalk.i64_in _ (by omega)
            rw [hm] at hva
            by_cases hb : 1099511627776 < m
            · have hbd : decide ((m : Int) > 1099511627776) = true := by simp; omega
              have HN := Lib.hid (HPN.out (.inr (by omega)))
              clear hc hc2 hva hal hle hm HPN HPY
              go_wp2_with fail
              refine (HC.out _).mono ?_
              rintro e w' ⟨rfl, rfl⟩
              go_wp2_with fail
              go_ret2
              exact ⟨by rw [HN.out.1, HN.out.2]; rfl, rfl⟩
            · have hbd : decide ((m : Int) > 1099511627776) = false := by simp; omega
              have HVA := Lib.hid hva.symm; have HAL := Lib.hid hal
              clear hc hc2 hva hal hle hm HPN HPY
              go_wp2_with fail
              refine (HC.out _).mono ?_
              rintro e w' ⟨rfl, rfl⟩
              go_wp2_with fail
              go_roundw
              case rel => exact ⟨k + 1, m, by omega, by go_num, rfl, by omega, HVA, HAL, by first | rfl | exact trivial⟩
              case measure => simp [intOf]; omega
        · obtain rfl : k = s.size := by omega
          have hd : decide ((s.size : Int) < (s.size : Int)) = false := by simp
          have htk : s.data.toList.take s.size = s.data.toList := List.take_of_length_le (by rw [← HLS.out]; exact Nat.le_refl _)
          have ha := HA.out; have hv := HV.out
          rw [htk] at ha hv
          have HN := Lib.hid (HPY.out ha (by rw [← hv]; exact hV))
          have HV2 := Lib.hid hv
          clear htk ha hv HPN HPY
          go_wp2_with fail
          go_ret2
          exact ⟨by rw [HN.out.1, HN.out.2, ← HV2.out]; rfl, rfl⟩
end Go.Proofs.YtmafefdchglpbaaDoor
