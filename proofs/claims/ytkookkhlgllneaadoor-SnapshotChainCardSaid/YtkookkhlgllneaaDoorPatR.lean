/-
  The walk of the reference's Path: for every string.
-/
import Derived.Test.YtkookkhlgllneaaDoorPatD
import Derived.Test.YtkookkhlgllneaaDoorSplA
namespace Go.Proofs.YtkookkhlgllneaaDoor
open Go.RowKit

theorem zero_free {l : List UInt8} (h : ∀ j, j < l.length → l.getD j 0 ≠ 0) : Lib.indexByte l 0 < 0 := by
  have hge := Lib.indexByte_ge l 0
  rcases Int.lt_or_le (Lib.indexByte l 0) 0 with h1 | h1
  · exact h1
  · obtain ⟨o, ho⟩ : ∃ o : Nat, Lib.indexByte l 0 = o := ⟨(Lib.indexByte l 0).toNat, by omega⟩
    have h2 := (Lib.indexByte_some ho).1
    obtain ⟨hlt, he⟩ := List.getElem?_eq_some_iff.1 h2
    exact absurd (by rw [List.getD_eq_getElem?_getD, h2]; rfl) (h o hlt)
theorem zero_in {l : List UInt8} {j : Nat} (hj : j < l.length) (h : l.getD j 0 = 0) : ¬ Lib.indexByte l 0 < 0 := by
  intro hn
  have hge := Lib.indexByte_ge l 0
  have := Lib.indexByte_none (l := l) (c := 0) (by omega) j
  apply this
  rw [List.getElem?_eq_getElem hj]
  rw [List.getD_eq_getElem?_getD, List.getElem?_eq_getElem hj] at h
  exact congrArg some h
theorem pathB_empty {s : ByteArray} (h : s.data.toList = []) : pathB s = false := by
  have e : s = ⟨#[]⟩ := by apply ByteArray.ext; apply Array.ext'; rw [h]
  subst e; decide +kernel
theorem seg_one (s : ByteArray) : (Lib.splitB (oneB 47) 0 (Lib.countB s (oneB 47)) s) = seg s := rfl
theorem seg_len (s : ByteArray) : (seg s).length = Lib.countB s (oneB 47) + 1 := Lib.splitB_all (oneB 47) (Nat.le_refl _) 0 _ s rfl
theorem getD_byteP (s : ByteArray) (i : Nat) (h : i < s.size) : s.data.toList.getD i 0 = s[i] := by
  rw [List.getD_eq_getElem?_getD, List.getElem?_eq_getElem (by simpa using h)]; rfl
set_option maxRecDepth 100000 in
set_option maxHeartbeats 1000000 in
theorem refPath_any (s : ByteArray) (w : World) :
    Calls Tryd.prog 95 #[.string s] w fun e w' => e = .returned (.bool (pathB s)) ∧ Below w.heap.size w w' := by
  by_cases he : s.size = 0
  · have HN := Lib.hid (pathB_empty (s := s) (List.eq_nil_of_length_eq_zero (by rw [← Lib.size_eq]; exact he)))
    have hl : s.toList = [] := by rw [Lib.toList_data]; exact List.eq_nil_of_length_eq_zero (by rw [← Lib.size_eq]; exact he)
    clear he
    go_enter Tryd.func95, Tryd.ntmps95
    go_wp2_with fail
    go_ret
    exact ⟨by rw [HN.out]; rfl, Below.refl _ _⟩
  have hl : (s.toList == []) = false := by
    rw [Lib.toList_data, beq_eq_false_iff_ne]; intro e; apply he; rw [Lib.size_eq, e]; rfl
  have hl2 : ¬ s.toList = [] := by simpa using hl
  by_cases h200 : 200 < s.size
  · have HN : Hid (pathB s = false) := by show _ = _; unfold pathB; rw [decide_eq_false (by omega)]; rfl
    have hd : decide ((s.size : Int) > 200) = true := by simp; omega
    go_enter Tryd.func95, Tryd.ntmps95
    go_wp2_with fail
    go_ret
    exact ⟨by rw [HN.out]; rfl, Below.refl _ _⟩
  have hd : decide ((s.size : Int) > 200) = false := by simp; omega
  have hsz : s.size ≤ 200 := by omega
  have HSP := Lib.hid (fun w => split_anyS s 47 w (by omega))
  have hlen := seg_len s
  obtain ⟨N, hN⟩ : ∃ N, Lib.countB s (oneB 47) = N := ⟨_, rfl⟩
  have hle := Lib.countB_le (oneB 47) (Nat.le_refl _) s.size s (Nat.le_refl _)
  rw [seg_one, hN] at HSP
  rw [hN] at hlen hle
  have HL := Lib.hid hlen
  have HPO : Hid (∀ (h : Lib.indexByte s.data.toList 0 < 0), pathB s = (seg s).all goodB) := fun h => pathB_of s hsz h
  have HPF : Hid (∀ j, j < s.size → s.data.toList.getD j 0 = 0 → pathB s = false) := fun j hj h => by
    unfold pathB; rw [decide_eq_false (zero_in (by rw [← Lib.size_eq]; exact hj) h), Bool.and_false]; rfl
  have HLS := Lib.hid (Lib.size_eq s)
  clear hN hlen he h200
  go_enter Tryd.func95, Tryd.ntmps95
  go_wp2_with fail
  go_loopw [3] (fun i wr => ∃ k : Nat, k ≤ s.size ∧ i = .int .i64 k ∧ Hid (∀ j, j < k → s.data.toList.getD j 0 ≠ 0) ∧ Hid (wr = w)) (fun i _ => s.size - (intOf i).toNat)
  case atStart => exact ⟨0, Nat.zero_le _, rfl, fun j hj => absurd hj (by omega), rfl⟩
  case round =>
    obtain ⟨k, hk, rfl, HZ, hw⟩ := hrel
    obtain rfl := hw.out
    clear hw
    by_cases hlt : k < s.size
    · have hd1 : decide ((k : Int) < (s.size : Int)) = true := by simp; omega
      have p1 : (0 : Int) ≤ (k : Int) := by omega
      have p2 : (k : Int) < (s.size : Int) := by omega
      have HG := Lib.hid (getD_byteP s k hlt)
      by_cases hz : s[k] = 0
      · have t0 : ((s[k].toNat : Int) == 0) = true := by rw [hz]; rfl
        have HX := Lib.hid (HPF.out k hlt (by rw [HG.out, hz]))
        clear hz
        go_wp2_with fail
        go_ret
        exact ⟨by rw [HX.out]; rfl, Below.refl _ _⟩
      · have t0 : ((s[k].toNat : Int) == 0) = false := by
          rw [beq_eq_false_iff_ne]; intro e; apply hz; apply UInt8.toNat_inj.1; show s[k].toNat = 0; omega
        have HZ2 : Hid (∀ j, j < k + 1 → s.data.toList.getD j 0 ≠ 0) := fun j hj => by
          by_cases h : j < k
          · exact HZ.out j h
          · obtain rfl : j = k := by omega
            rw [HG.out]; exact hz
        clear hz
        go_wp2_with fail
        go_roundw
        case rel => exact ⟨k + 1, by omega, by go_num, HZ2, by first | rfl | exact trivial⟩
        case measure => simp [intOf]; omega
    · obtain rfl : k = s.size := by omega
      have hd1 : decide ((s.size : Int) < (s.size : Int)) = false := by simp
      have HA := Lib.hid (HPO.out (zero_free (fun j hj => HZ.out j (by rw [HLS.out]; exact hj))))
      clear HZ HPO HPF
      go_wp2_with fail
      refine (HSP.out _).mono ?_
      rintro e w1 ⟨rfl, hw1⟩
      have hrow : w1.heap[wr.heap.size]? = some (.cells ((seg s).map Value.string).toArray 9 (0, 0)) := by rw [hw1]; exact heap_alloc_new wr _
      have HB1 : Hid (Below wr.heap.size wr w1) := by show Below _ _ _; rw [hw1]; exact (Below.refl _ _).alloc (Nat.le_refl _) _
      have hcell : ∀ j, j < N + 1 → w1.cell? ⟨wr.heap.size, j, none⟩ = some (.string ((seg s).getD j ByteArray.empty)) := fun j hj => by
        rw [cell_of_row w1 _ j _ _ _ hrow]; simp [HL.out, hj]
      have HCL := Lib.hid hcell
      clear hw1 hrow hcell
      go_wp2_with fail
      go_loopw [5] (fun i wx => ∃ k : Nat, k ≤ N + 1 ∧ i = .int .i64 k ∧ Hid (((seg s).take k).all goodB = true) ∧ Hid (wx = w1)) (fun i _ => N + 1 - (intOf i).toNat)
      case atStart => exact ⟨0, Nat.zero_le _, rfl, rfl, rfl⟩
      case round =>
        obtain ⟨k, hk, rfl, HG, hw⟩ := hrel
        obtain rfl := hw.out
        clear hw
        by_cases hlt : k < N + 1
        · have hd2 : decide ((k : Int) < (N : Int) + 1) = true := by simp; omega
          have p1 : (0 : Int) ≤ (k : Int) := by omega
          have p2 : (k : Int) < (N : Int) + 1 := by omega
          have c1 := HCL.out k hlt
          have HSN : Hid (((seg s).take (k + 1)).all goodB = (((seg s).take k).all goodB && goodB ((seg s).getD k ByteArray.empty))) := by
            show _ = _
            have hkl : k < (seg s).length := by rw [HL.out]; exact hlt
            rw [List.take_succ_eq_append_getElem hkl, List.all_append, List.getD_eq_getElem?_getD, List.getElem?_eq_getElem hkl]; simp
          have HBAD : Hid (goodB ((seg s).getD k ByteArray.empty) = false → (seg s).all goodB = false) := fun h => by
            have hkl : k < (seg s).length := by rw [HL.out]; exact hlt
            rw [List.all_eq_false]
            refine ⟨(seg s)[k], List.getElem_mem hkl, ?_⟩
            rw [List.getD_eq_getElem?_getD, List.getElem?_eq_getElem hkl] at h
            simp at h
            rw [h]; simp
          obtain ⟨x, hx⟩ : ∃ x, (seg s).getD k ByteArray.empty = x := ⟨_, rfl⟩
          rw [hx] at c1 HSN HBAD
          clear hx
          by_cases hg : goodB x = true
          · obtain ⟨g1, g2, g3⟩ := goodB_parts hg
            have HGN : Hid (((seg s).take (k + 1)).all goodB = true) := by show _ = _; rw [HSN.out, HG.out, hg]; rfl
            clear hg
            go_wp2_with fail
            go_roundw
            case rel => exact ⟨k + 1, by omega, by go_num, HGN, by first | rfl | exact trivial⟩
            case measure => simp [intOf]; omega
          · have hg : goodB x = false := by simpa using hg
            have HX : Hid (pathB s = false) := by show _ = _; rw [HA.out]; exact HBAD.out hg
            have hcs : (x.toList == []) = true ∨ ((x.toList == []) = false ∧ (x.toList == [46]) = true) ∨ ((x.toList == []) = false ∧ (x.toList == [46]) = false ∧ (x.toList == [46, 46]) = true) := by
              unfold goodB at hg
              cases h1 : (x.toList == []) <;> cases h2 : (x.toList == [46]) <;> cases h3 : (x.toList == [46, 46]) <;> simp_all
            clear hg
            rcases hcs with g1 | ⟨g1, g2⟩ | ⟨g1, g2, g3⟩
            all_goals
              go_wp2_with fail
              go_ret
              exact ⟨by rw [HX.out]; rfl, HB1.out⟩
        · obtain rfl : k = N + 1 := by omega
          have hd2 : decide ((N : Int) + 1 < (N : Int) + 1) = false := by simp
          have hcast : ((N + 1 : Nat) : Int) = (N : Int) + 1 := by omega
          have HX : Hid (pathB s = true) := by
            show _ = _; rw [HA.out]
            have := HG.out
            rw [List.take_of_length_le (by rw [HL.out]; exact Nat.le_refl _)] at this
            exact this
          go_wp2_with fail
          go_ret
          exact ⟨by rw [HX.out]; rfl, HB1.out⟩
end Go.Proofs.YtkookkhlgllneaaDoor
