/-
  The walks of the reference's Directory, Rest, Under and Relocate (condition: strings of at most 1000 bytes).
-/
import Derived.Test.YtkookkhlgllneaaDoorLawPRet
import Derived.Test.YtkookkhlgllneaaDoorGl
import Derived.Test.YtkookkhlgllneaaDoorGa
namespace Go.Proofs.YtkookkhlgllneaaDoor
open Go.RowKit

theorem indexB_last {s : ByteArray} (h : s.data.toList.getLast? = some 47) : ¬ Lib.indexB s slB = -1 := by
  intro e
  rw [indexB_one] at e
  have h1 := Lib.indexByte_none e (s.data.toList.length - 1)
  apply h1
  rw [List.getLast?_eq_getElem?] at h
  exact h
theorem seg_last : ∀ (n : Nat) (s : ByteArray), s.size ≤ n → s.data.toList.getLast? = some 47 → (⟨#[]⟩ : ByteArray) ∈ seg s
  | 0, s, hn, h => by
    have : s.data.toList = [] := List.eq_nil_of_length_eq_zero (by rw [← Lib.size_eq]; omega)
    rw [this] at h; cases h
  | n + 1, s, hn, h => by
    rcases Lib.indexB_cases s slB with hix | ⟨i, hix, hroom⟩
    · exact absurd hix (indexB_last h)
    · have hr : i + 1 ≤ s.size := hroom
      rw [seg_hit s i hix]
      apply List.mem_cons_of_mem
      by_cases he : i + 1 = s.size
      · have e : s.extract (i + 1) s.size = ⟨#[]⟩ := by
          apply eq_listS; rw [extract_listS, he, Lib.size_eq, List.drop_length]
        rw [e, seg_miss ⟨#[]⟩ (by decide +kernel)]; exact List.mem_singleton.2 rfl
      · refine seg_last n _ (by rw [ByteArray.size_extract]; omega) ?_
        rw [extract_listS, List.getLast?_drop, if_neg (by rw [← Lib.size_eq]; omega)]
        exact h
theorem path_no_last {s : ByteArray} (h : pathB s = true) : s.data.toList.getLast? ≠ some 47 := by
  intro hl
  have h1 := seg_last s.size s (Nat.le_refl _) hl
  unfold pathB at h
  simp only [Bool.and_eq_true] at h
  have := List.all_eq_true.1 h.2 _ h1
  revert this; decide +kernel
theorem insB_empty {a : ByteArray} (h : (a.toList == []) = true) : insB a = ⟨#[]⟩ := by unfold insB; rw [if_pos h]
theorem insB_full {a : ByteArray} (h : (a.toList == []) = false) : insB a = a ++ slB := by unfold insB; rw [if_neg (by rw [h]; simp)]
theorem insB_fsize {a : ByteArray} (h : (a.toList == []) = false) : (insB a).size = a.size + 1 := by rw [insB_full h, ByteArray.size_append]; rfl
theorem hasP_ins {a s : ByteArray} (h : (a.toList == []) = false) (hs : a.size < s.size) : hasP s (insB a) = (hasP s a && (s[a.size] == 47)) := by
  unfold hasP
  rw [insB_fsize h, insB_full h, append_listS, List.take_succ_eq_append_getElem (by simpa using hs), Bool.eq_iff_iff, decide_eq_true_iff, Bool.and_eq_true, decide_eq_true_iff, beq_iff_eq]
  have hl : (s.data.toList.take a.size).length = a.data.toList.length := by rw [List.length_take, ← Lib.size_eq, ← Lib.size_eq]; omega
  constructor
  · intro e
    obtain ⟨e1, e2⟩ := List.append_inj e hl
    exact ⟨e1, by injection e2⟩
  · rintro ⟨e1, e2⟩
    rw [e1]
    congr 1
    have : s.data.toList[a.size]'(by simpa using hs) = 47 := e2
    rw [this]; rfl
theorem hasP_strict {a s : ByteArray} (h : (a.toList == []) = false) (hp : pathB s = true) (hh : hasP s (insB a) = true) : a.size + 1 < s.size := by
  have h1 := hasP_size hh
  rw [insB_fsize h] at h1
  rcases Nat.lt_or_ge (a.size + 1) s.size with h2 | h2
  · exact h2
  · exfalso
    apply path_no_last hp
    have e : s.size = a.size + 1 := by omega
    rw [hasP_ins h (by omega), Bool.and_eq_true, beq_iff_eq] at hh
    rw [List.getLast?_eq_getElem?, ← Lib.size_eq, e, Nat.add_sub_cancel, List.getElem?_eq_getElem (by rw [← Lib.size_eq]; omega)]
    have : s.data.toList[a.size]'(by rw [← Lib.size_eq]; omega) = 47 := hh.2
    rw [this]
set_option maxHeartbeats 400000 in
theorem refDirectory_any (d : ByteArray) (w : World) :
    Calls Tryd.prog 71 #[.string d] w fun e w' => e = .returned (.bool (dirB d)) ∧ Below w.heap.size w w' := by
  have HP := Lib.hid (fun w => refPath_any d w)
  have hD : Hid (dirB d = ((d.toList == []) || pathB d)) := rfl
  by_cases h : (d.toList == []) = true
  · have HX : Hid (dirB d = true) := by show _ = _; rw [hD.out, h]; rfl
    go_enter Tryd.func71, Tryd.ntmps71
    go_wp2_with fail
    go_ret
    exact ⟨by rw [HX.out]; rfl, Below.refl _ _⟩
  · have h : (d.toList == []) = false := by simpa using h
    have HX : Hid (dirB d = pathB d) := by show _ = _; rw [hD.out, h]; rfl
    go_enter Tryd.func71, Tryd.ntmps71
    go_wp2_with fail
    refine (HP.out _).mono ?_
    rintro e w' ⟨rfl, hb⟩
    go_wp2_with fail
    go_ret
    exact ⟨by rw [HX.out]; rfl, hb⟩
set_option maxHeartbeats 400000 in
theorem refUnder_any (b r : ByteArray) (w : World) (hb : b.size ≤ 1000) (hr : r.size ≤ 1000) :
    Calls Tryd.prog 114 #[.string b, .string r] w fun e w' => e = .returned (.string (insB b ++ r)) ∧ w = w' := by
  by_cases h : (b.toList == []) = true
  · have HX : Hid (insB b ++ r = r) := by show _ = _; rw [insB_empty h]; apply eq_listS; rw [append_listS]; rfl
    go_enter Tryd.func114, Tryd.ntmps114
    go_wp2_with fail
    go_ret
    exact ⟨by rw [HX.out]; rfl, rfl⟩
  · have h : (b.toList == []) = false := by simpa using h
    have HX : Hid (insB b ++ r = b ++ slB ++ r) := by show _ = _; rw [insB_full h]
    have hsz : b.size + 1 ≤ 9223372036854775807 := by omega
    have hsz2 : b.size + 1 + r.size ≤ 9223372036854775807 := by omega
    go_enter Tryd.func114, Tryd.ntmps114
    go_wp2_with fail
    go_ret
    exact ⟨by rw [HX.out]; rfl, rfl⟩
set_option maxHeartbeats 1000000 in
theorem refRest_any (a s : ByteArray) (w : World) (ha : a.size ≤ 1000) (hp : pathB s = true) :
    Calls Tryd.prog 113 #[.string a, .string s] w fun e w' => e = .returned (if hasP s (insB a) = true then .tuple #[.string (s.extract (insB a).size s.size), .bool true] else .tuple #[.string ⟨#[]⟩, .bool false]) ∧ w = w' := by
  have hss := pathB_size hp
  by_cases h : (a.toList == []) = true
  · have HX : Hid (hasP s (insB a) = true) := by show _ = _; rw [insB_empty h]; unfold hasP; rw [decide_eq_true_iff]; rfl
    have HY : Hid (s.extract (insB a).size s.size = s) := by show _ = _; rw [insB_empty h]; apply eq_listS; rw [extract_listS]; rfl
    rw [HX.out, if_pos rfl, HY.out]
    clear hp HX HY
    go_enter Tryd.func113, Tryd.ntmps113
    go_wp2_with fail
    go_ret2
    exact ⟨rfl, rfl⟩
  · have h : (a.toList == []) = false := by simpa using h
    have HSTR := Lib.hid (fun hh => hasP_strict h hp hh)
    have hfs := insB_fsize h
    by_cases hlen : a.size + 1 < s.size
    · have hd : decide ((s.size : Int) > (a.size : Int) + 1) = true := by simp; omega
      have p0 : (0 : Int) ≤ (a.size : Int) := by omega
      have p1 : (a.size : Int) ≤ (s.size : Int) := by omega
      have p2 : (a.size : Int) < (s.size : Int) := by omega
      have p3 : (0 : Int) ≤ (a.size : Int) + 1 := by omega
      have p4 : (a.size : Int) + 1 ≤ (s.size : Int) := by omega
      have p5 : ((a.size : Int) + 1).toNat = a.size + 1 := by omega
      have hlt : a.size < s.size := by omega
      have HI := Lib.hid (hasP_ins h hlt)
      have hte := take_eqS s a
      have HFS := Lib.hid hfs
      clear hfs hp hlen
      obtain ⟨b1, hb1⟩ : ∃ b, hasP s a = b := ⟨_, rfl⟩
      rw [hb1] at HI hte
      cases b1
      · have HX : Hid (hasP s (insB a) = false) := by show _ = _; rw [HI.out]; rfl
        rw [HX.out, if_neg (by simp)]
        clear hb1 HX
        go_enter Tryd.func113, Tryd.ntmps113
        go_wp2_with fail
        go_ret2
        exact ⟨rfl, rfl⟩
      · by_cases hc : s[a.size] = 47
        · have HX : Hid (hasP s (insB a) = true) := by show _ = _; rw [HI.out, hc]; rfl
          have hce : ((s[a.size].toNat : Int) == 47) = true := by rw [hc]; rfl
          rw [HX.out, if_pos rfl, HFS.out]
          clear hb1 hc HX
          go_enter Tryd.func113, Tryd.ntmps113
          go_wp2_with fail
          go_ret2
          exact ⟨rfl, rfl⟩
        · have HX : Hid (hasP s (insB a) = false) := by show _ = _; rw [HI.out]; simpa using hc
          have hce : ((s[a.size].toNat : Int) == 47) = false := by
            rw [beq_eq_false_iff_ne]; intro e; apply hc; apply UInt8.toNat_inj.1; show s[a.size].toNat = 47; omega
          rw [HX.out, if_neg (by simp)]
          clear hb1 hc HX
          go_enter Tryd.func113, Tryd.ntmps113
          go_wp2_with fail
          go_ret2
          exact ⟨rfl, rfl⟩
    · have hd : decide ((s.size : Int) > (a.size : Int) + 1) = false := by simp; omega
      have HX : Hid (hasP s (insB a) = false) := by
        show _ = _
        cases hh : hasP s (insB a)
        · rfl
        · exact absurd (HSTR.out hh) hlen
      rw [HX.out, if_neg (by simp)]
      clear hp hfs hlen HX
      go_enter Tryd.func113, Tryd.ntmps113
      go_wp2_with fail
      go_ret2
      exact ⟨rfl, rfl⟩
end Go.Proofs.YtkookkhlgllneaaDoor
