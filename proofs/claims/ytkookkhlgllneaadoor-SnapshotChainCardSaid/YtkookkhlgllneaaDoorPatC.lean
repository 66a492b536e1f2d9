/-
  The walk of pattern.Path: for every string.
-/
import Derived.Test.YtkookkhlgllneaaDoorPatL
namespace Go.Proofs.YtkookkhlgllneaaDoor
open Go.RowKit

attribute [local go_sem] Oper.semAt_some

theorem ret_boolP {a b : Bool} (h : a = b) : Ending.returned (.bool a) = .returned (.bool b) := by rw [h]
theorem goodB_parts {x : ByteArray} (h : goodB x = true) : (x.toList == []) = false ∧ (x.toList == [46]) = false ∧ (x.toList == [46, 46]) = false := by
  unfold goodB at h; simpa [Bool.and_eq_true, and_assoc] using h
theorem pathB_of (s : ByteArray) (h1 : s.size ≤ 200) (h2 : Lib.indexByte s.data.toList 0 < 0) : pathB s = (seg s).all goodB := by
  unfold pathB; rw [decide_eq_true h1, decide_eq_true h2]; rfl
set_option maxRecDepth 100000 in
set_option maxHeartbeats 1000000 in
theorem Path_any (s : ByteArray) (w : World) :
    Calls Tryd.prog 94 #[.string s] w fun e w' => e = .returned (.bool (pathB s)) ∧ Below w.heap.size w w' := by
  by_cases h200 : 200 < s.size
  · have HP : Hid (pathB s = false) := by show _ = _; unfold pathB; rw [decide_eq_false (by omega)]; rfl
    have hd : decide ((s.size : Int) > 200) = true := by simp; omega
    go_enter Tryd.func94, Tryd.ntmps94
    go_wp2
    refine bodyPost_ret (v := .bool false) (by simp [results, Tryd.f94, go_sem]) rfl ⟨by rw [HP.out], ?_⟩
    exact (Below.refl _ _).alloc (Nat.le_refl _) _
  have hd : decide ((s.size : Int) > 200) = false := by simp; omega
  by_cases h0 : Lib.indexByte s.data.toList 0 < 0
  · have HP := Lib.hid (pathB_of s (by omega) h0)
    obtain ⟨v, hv⟩ : ∃ v, Lib.indexByte s.data.toList 0 = v := ⟨_, rfl⟩
    have hc : ∀ w, Calls Tryd.prog 98 #[.string s, .int .u8 0] w fun e w' => e = .returned (.int .i64 v) ∧ w = w' := fun w => (indexByte_anyP s 0 w).mono fun e w' ⟨he, hw⟩ => ⟨by rw [he, ← hv]; rfl, hw⟩
    rw [hv] at h0
    have hd2 : decide (v ≥ 0) = false := by simp; omega
    have HC := Lib.hid hc; clear hc hv
    refine (callsIn_wide (n := 8)).1 ?_
    refine callsIn_of_wp_marks Tryd.func94 rfl trivial ?_ rfl
    simp only [Tryd.ntmps94, List.size_toArray, List.length_cons, List.length_nil, Nat.reduceAdd, Nat.reduceSub, Array.replicate_succ, Array.replicate_zero, List.push_toArray, List.append_toArray, List.nil_append, List.cons_append]
    gi_wp2
    refine ⟨trivial, ?_⟩
    refine (callsIn_wide.2 (HC.out _)).mono ?_
    rintro e w' ⟨rfl, rfl⟩
    gi_wp2
    refine ⟨trivial, ?_⟩
    refine (callsIn_wide.2 (splitSeq_any s _)).mono ?_
    rintro e w1 ⟨rfl, hw1⟩
    have HW1 := Lib.hid hw1; clear hw1
    gi_wp2
    have hB0 : Below w.heap.size w w1 := by rw [HW1.out]; exact ((((Below.refl _ w).alloc (Nat.le_refl _) _).alloc (by simp) _).alloc (by simp <;> omega) _).alloc (by simp <;> omega) _
    have hz1 : w1.heap.size = w.heap.size + 4 := by rw [HW1.out]; simp
    have hcr : w1.heap[w.heap.size]? = some (.cells #[.bool false] 4 (0, 0)) := by rw [HW1.out]; exact (Below.heap_alloc _ _ _ (by simp <;> omega)).trans ((Below.heap_alloc _ _ _ (by simp <;> omega)).trans ((Below.heap_alloc _ _ _ (by simp)).trans (heap_alloc_new w _)))
    have hc1 : w1.heap[w.heap.size + 1]? = some (.cells #[.string s] 9 (0, 0)) := by
      rw [HW1.out]; refine (Below.heap_alloc _ _ _ (by simp <;> omega)).trans ((Below.heap_alloc _ _ _ (by simp)).trans ?_)
      have := heap_alloc_new (w.alloc (.cells #[.bool false] 4)) (.cells #[.string s] 9); rwa [World.size_alloc] at this
    have hc2 : w1.heap[w.heap.size + 1 + 1]? = some (.cells #[.string slB] 9 (0, 0)) := by
      rw [HW1.out]; refine (Below.heap_alloc _ _ _ (by simp)).trans ?_
      have := heap_alloc_new ((w.alloc (.cells #[.bool false] 4)).alloc (.cells #[.string s] 9)) (.cells #[.string slB] 9); rwa [World.size_alloc, World.size_alloc] at this
    have hc3 : w1.heap[w.heap.size + 1 + 2]? = some (.cells #[.int .i64 0] 3 (0, 0)) := by
      rw [HW1.out]
      have := heap_alloc_new (((w.alloc (.cells #[.bool false] 4)).alloc (.cells #[.string s] 9)).alloc (.cells #[.string slB] 9)) (.cells #[.int .i64 0] 3); rwa [World.size_alloc, World.size_alloc, World.size_alloc] at this
    clear HW1
    refine wpIn_split (n := 8) (w.heap.size + 1) (w.heap.size + 1 + 1) (w.heap.size + 1 + 2) s (by omega) rfl
      ⟨by rw [cell_of_row w1 _ 0 _ _ _ hc1]; rfl, by simp [World.frozen?, hc1], by rw [cell_of_row w1 _ 0 _ _ _ hc2]; rfl, by rw [cell_of_row w1 _ 0 _ _ _ hc3]; rfl⟩ (by omega) (by omega) (by omega) (by omega)
      (fun xs W => xs.all goodB = true ∧ W.heap[w.heap.size]? = some (.cells #[.bool false] 4 (0, 0)) ∧ Below w.heap.size w W)
      (fun xs W => xs.all goodB = false ∧ W.heap[w.heap.size]? = some (.cells #[.bool false] 4 (0, 0)) ∧ Below w.heap.size w W)
      (fun xs W W' h hb => ⟨h.1, (hb.block _ (by omega)).trans h.2.1, h.2.2.trans (hb.mono (by omega))⟩)
      (fun xs W W' h hb => ⟨h.1, (hb.block _ (by omega)).trans h.2.1, h.2.2.trans (hb.mono (by omega))⟩)
      ⟨rfl, hcr, hB0⟩
      (fun x => { tmps := #[.string s, undef, .pointer (some ⟨w.heap.size, 0, none⟩), .string x, .string s, .int .i64 s.size, .bool false, .bool false, .string s, .int .i64 v, .bool false, .bool false, .string s, .func (.func 171) #[] #[.pointer (some ⟨w.heap.size + 1 + 1, 0, none⟩), .pointer (some ⟨w.heap.size + 1, 0, none⟩), .pointer (some ⟨w.heap.size + 1 + 2, 0, none⟩)], .string x, undef, undef, undef, undef, undef], defers := [] })
      ?assign ?body ?done ?stop
    case assign =>
      intro l x W K hK
      gi_wp2
      exact hK
    case body =>
      rintro l pre x W ⟨hp, hcr, hB⟩ hlt
      have hcell : W.cell? ⟨w.heap.size, 0, none⟩ = some (.bool false) := by rw [cell_of_row W _ 0 _ _ _ hcr]; rfl
      have hfro : W.frozen? ⟨w.heap.size, 0, none⟩ = false := by simp [World.frozen?, hcr]
      by_cases hg : goodB x = true
      · obtain ⟨g1, g2, g3⟩ := goodB_parts hg
        have HR : Hid (Tail (w.heap.size + 1) W W ∧ (pre ++ [x]).all goodB = true ∧ W.heap[w.heap.size]? = some (.cells #[.bool false] 4 (0, 0)) ∧ Below w.heap.size w W) :=
          ⟨⟨Nat.le_refl _, fun _ _ _ => rfl⟩, by rw [List.all_append, hp]; simp [hg], hcr, hB⟩
        clear hg hp hcr hB
        gi_wp2
        exact HR.out
      · have hg : goodB x = false := by simpa using hg
        have HR : Hid (Tail (w.heap.size + 1) W (W.setCell ⟨w.heap.size, 0, none⟩ (.bool false)) ∧ (pre ++ [x]).all goodB = false ∧ (W.setCell ⟨w.heap.size, 0, none⟩ (.bool false)).heap[w.heap.size]? = some (.cells #[.bool false] 4 (0, 0)) ∧ Below w.heap.size w (W.setCell ⟨w.heap.size, 0, none⟩ (.bool false))) :=
          ⟨⟨by simp [World.setCell], fun k hk _ => Below.heap_setCell W ⟨w.heap.size, 0, none⟩ _ k (by show k ≠ w.heap.size; omega)⟩, by rw [List.all_append]; simp [hg], by simp [World.setCell, Array.getElem?_modify, hcr], hB.trans (below_set _ _ _ _ (Nat.le_refl _))⟩
        have hcs : (x.toList == []) = true ∨ ((x.toList == []) = false ∧ (x.toList == [46]) = true) ∨ ((x.toList == []) = false ∧ (x.toList == [46]) = false ∧ (x.toList == [46, 46]) = true) := by
          unfold goodB at hg
          cases h1 : (x.toList == []) <;> cases h2 : (x.toList == [46]) <;> cases h3 : (x.toList == [46, 46]) <;> simp_all
        clear hg hp hcr hB
        rcases hcs with g1 | ⟨g1, g2⟩ | ⟨g1, g2, g3⟩
        all_goals
          gi_wp2
          exact HR.out
    case done =>
      rintro D W hD ⟨hp, hcr, hB⟩ hK
      have hcell : W.cell? ⟨w.heap.size, 0, none⟩ = some (.bool false) := by rw [cell_of_row W _ 0 _ _ _ hcr]; rfl
      have hfro : W.frozen? ⟨w.heap.size, 0, none⟩ = false := by simp [World.frozen?, hcr]
      gi_wp2
      have hKs : (W.setCell ⟨w.heap.size, 0, none⟩ (.bool true)).heap[D]? = some (.deferred (some [])) := (Below.heap_setCell W ⟨w.heap.size, 0, none⟩ (.bool true) D (by show D ≠ w.heap.size; omega)).trans hK
      have hc5 : ((W.setCell ⟨w.heap.size, 0, none⟩ (.bool true)).putObj D (.deferred none)).cell? ⟨w.heap.size, 0, none⟩ = some (.bool true) :=
        (World.cell?_of_block (a := ⟨w.heap.size, 0, none⟩) (World.putObj_heap_other (by show w.heap.size ≠ D; omega))).trans (World.cell?_setCell_same' _ _ _ (by rw [hcell]; rfl))
      refine ⟨by simp, .inl ⟨_, _, rfl, run_takeDeferred hKs, ?_⟩⟩
      refine ⟨.bool true, ?_, by rw [HP.out, hp], hB.trans ((below_set _ W _ _ (Nat.le_refl _)).trans (below_put _ _ _ _ (by omega)))⟩
      simp [results, Tryd.f94, go_sem, hc5]
    case stop =>
      rintro D pre W hD hpre ⟨hp, hcr, hB⟩ hK
      have hcell : W.cell? ⟨w.heap.size, 0, none⟩ = some (.bool false) := by rw [cell_of_row W _ 0 _ _ _ hcr]; rfl
      have hfa : (seg s).all goodB = false := by
        obtain ⟨r, hr⟩ := hpre
        rw [← hr, List.all_append, hp]; rfl
      gi_wp2
      have hc5 : (W.putObj D (.deferred none)).cell? ⟨w.heap.size, 0, none⟩ = some (.bool false) :=
        (World.cell?_of_block (a := ⟨w.heap.size, 0, none⟩) (World.putObj_heap_other (by show w.heap.size ≠ D; omega))).trans hcell
      refine ⟨by simp, .inl ⟨_, _, rfl, run_takeDeferred hK, ?_⟩⟩
      refine ⟨.bool false, ?_, by rw [HP.out, hfa], hB.trans (below_put _ _ _ _ (by omega))⟩
      simp [results, Tryd.f94, go_sem, hc5]
  · have HP : Hid (pathB s = false) := by show _ = _; unfold pathB; rw [decide_eq_false h0, Bool.and_false]; rfl
    obtain ⟨v, hv⟩ : ∃ v, Lib.indexByte s.data.toList 0 = v := ⟨_, rfl⟩
    have hc : ∀ w, Calls Tryd.prog 98 #[.string s, .int .u8 0] w fun e w' => e = .returned (.int .i64 v) ∧ w = w' := fun w => (indexByte_anyP s 0 w).mono fun e w' ⟨he, hw⟩ => ⟨by rw [he, ← hv]; rfl, hw⟩
    rw [hv] at h0
    have hd2 : decide (v ≥ 0) = true := by simp; omega
    have HC := Lib.hid hc; clear hc hv
    go_enter Tryd.func94, Tryd.ntmps94
    go_wp2_with fail
    refine (HC.out _).mono ?_
    rintro e w' ⟨rfl, rfl⟩
    go_wp2_with fail
    refine bodyPost_ret (v := .bool false) (by simp [results, Tryd.f94, go_sem]) rfl ⟨by rw [HP.out], ?_⟩
    exact (Below.refl _ _).alloc (Nat.le_refl _) _
end Go.Proofs.YtkookkhlgllneaaDoor
