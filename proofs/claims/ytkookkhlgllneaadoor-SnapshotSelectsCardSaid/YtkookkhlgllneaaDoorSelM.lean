/-
  Entries that are selected and moved: plain mathematics.
-/
import Derived.Test.YtkookkhlgllneaaDoorGe
import Derived.Test.YtkookkhlgllneaaDoorGl
namespace Go.Proofs.YtkookkhlgllneaaDoor
open Go.RowKit

/-- the entry that is moved, if it is -/
def mvE (a b : ByteArray) (x : En) : Option En := if relOk a b x.p = true then some ⟨movB a b x.p, x.d⟩ else none
theorem mvE_some {a b : ByteArray} {x z : En} (h : mvE a b x = some z) : relOk a b x.p = true ∧ z = ⟨movB a b x.p, x.d⟩ := by
  unfold mvE at h
  split at h
  · rename_i hr; injection h with h; exact ⟨hr, h.symm⟩
  · cases h
def dirs (s : List En) (a b : ByteArray) : Bool := vldE s && (dirB a && dirB b)
def moveL (a b : ByteArray) (s : List En) : Except Int (List En) := if dirs s a b then .ok (s.filterMap (mvE a b)) else .error 1

theorem app_lt {P x y : List UInt8} : P ++ x < P ++ y ↔ x < y := by
  induction P with
  | nil => exact Iff.rfl
  | cons c P ih =>
    rw [List.cons_append, List.cons_append, List.cons_lt_cons_iff]
    constructor
    · rintro (h | ⟨_, h⟩)
      · exact absurd h (UInt8.lt_irrefl c)
      · exact ih.1 h
    · exact fun h => .inr ⟨rfl, ih.2 h⟩
theorem mov_list (a b s : ByteArray) : (movB a b s).toList = (insB b).toList ++ s.toList.drop (insB a).size := by
  unfold movB
  rw [Lib.toList_data, Lib.toList_data, Lib.toList_data, ByteArray.data_append, Array.toList_append, ByteArray.data_extract, Array.toList_extract, List.extract_eq_take_drop]
  congr 1
  rw [List.take_of_length_le]
  rw [List.length_drop, ← Lib.size_eq]; omega
theorem rel_pre {a b s : ByteArray} (h : relOk a b s = true) : s.toList = (insB a).toList ++ s.toList.drop (insB a).size := by
  unfold relOk at h
  rw [Bool.and_eq_true, Bool.and_eq_true, Bool.and_eq_true, Bool.and_eq_true] at h
  have hp := h.2.2.2.1
  unfold hasP at hp
  have hp' := of_decide_eq_true hp
  rw [Lib.toList_data, Lib.toList_data]
  conv => lhs; rw [← List.take_append_drop (insB a).size s.data.toList, hp']
theorem mov_mono {a b x y : ByteArray} (hx : relOk a b x = true) (hy : relOk a b y = true) (h : pls x y = true) : pls (movB a b x) (movB a b y) = true := by
  rw [pls_iff] at h ⊢
  rw [rel_pre hx, rel_pre hy, app_lt] at h
  rw [mov_list, mov_list, app_lt]
  exact h
theorem srt_move {a b : ByteArray} {s : List En} (h : Srt En.p s) : Srt En.p (s.filterMap (mvE a b)) := by
  unfold Srt at h ⊢
  rw [List.pairwise_filterMap]
  refine List.Pairwise.imp ?_ h
  intro x y hxy z hz z' hz'
  obtain ⟨h1, rfl⟩ := mvE_some hz
  obtain ⟨h2, rfl⟩ := mvE_some hz'
  exact mov_mono h1 h2 hxy
theorem rel_path {a b s : ByteArray} (h : relOk a b s = true) : pathB (movB a b s) = true := by
  unfold relOk at h
  rw [Bool.and_eq_true, Bool.and_eq_true, Bool.and_eq_true, Bool.and_eq_true] at h
  exact h.2.2.2.2
theorem vld_move {a b : ByteArray} {s : List En} (h : vldE s = true) : vldE (s.filterMap (mvE a b)) = true := by
  obtain ⟨h1, h2, h3⟩ := vldE_parts h
  unfold vldE
  rw [Bool.and_eq_true, Bool.and_eq_true]
  refine ⟨⟨decide_eq_true ?_, ?_⟩, (ascB_iff _).2 (srt_move h2)⟩
  · exact Nat.le_trans (List.length_filterMap_le _ _) h1
  · rw [Bool.not_eq_true', List.any_eq_false]
    intro z hz
    obtain ⟨x, hx, hxz⟩ := List.mem_filterMap.1 hz
    obtain ⟨hr, rfl⟩ := mvE_some hxz
    unfold badE
    rw [decide_eq_false (h3 x hx), rel_path hr]
    simp
theorem moveL_vld {a b : ByteArray} {s l : List En} (h : moveL a b s = .ok l) : vldE l = true := by
  unfold moveL at h
  split at h
  · rename_i hd
    injection h with h
    subst h
    unfold dirs at hd
    rw [Bool.and_eq_true] at hd
    exact vld_move hd.1
  · cases h
theorem ins_end {l : List En} {x : En} (h : ∀ y ∈ l, pls y.p x.p = true) : ins En.p l x = l ++ [x] := by
  induction l with
  | nil => rfl
  | cons y l ih =>
    rw [ins_cons, if_pos (h y (by simp)), ih fun z hz => h z (by simp [hz])]; rfl
/-- one entry more: the next element is inserted at the end -/
theorem move_step {a b : ByteArray} {s : List En} (hs : Srt En.p s) {k : Nat} {x : En} (hx : s[k]? = some x) {z : En} (hz : mvE a b x = some z) : ins En.p ((s.take k).filterMap (mvE a b)) z = (s.take (k + 1)).filterMap (mvE a b) := by
  rw [List.take_add_one, hx, List.filterMap_append]
  have e : (Option.toList (some x)).filterMap (mvE a b) = [z] := by simp [hz]
  rw [e]
  refine ins_end fun y hy => ?_
  obtain ⟨u, hu, huy⟩ := List.mem_filterMap.1 hy
  obtain ⟨h1, rfl⟩ := mvE_some huy
  obtain ⟨h2, rfl⟩ := mvE_some hz
  refine mov_mono h1 h2 ?_
  have hk := (List.getElem?_eq_some_iff.1 hx)
  obtain ⟨hk1, hk2⟩ := hk
  obtain ⟨i, hi, rfl⟩ := List.getElem_of_mem hu
  rw [List.length_take] at hi
  rw [List.getElem_take]
  have := List.pairwise_iff_getElem.1 hs i k (by omega) hk1 (by omega)
  rw [hk2] at this
  exact this
theorem move_skip {a b : ByteArray} {s : List En} {k : Nat} {x : En} (hx : s[k]? = some x) (hz : mvE a b x = none) : (s.take (k + 1)).filterMap (mvE a b) = (s.take k).filterMap (mvE a b) := by
  rw [List.take_add_one, hx, List.filterMap_append]
  simp [hz]
theorem move_take {a b : ByteArray} {s : List En} {k : Nat} {x : En} (hx : s[k]? = some x) {z : En} (hz : mvE a b x = some z) : (s.take (k + 1)).filterMap (mvE a b) = (s.take k).filterMap (mvE a b) ++ [z] := by
  rw [List.take_add_one, hx, List.filterMap_append]
  simp [hz]
theorem sel_take {f : En → Bool} {s : List En} {k : Nat} {x : En} (hx : s[k]? = some x) (hf : f x = true) : (s.take (k + 1)).filter f = (s.take k).filter f ++ [x] := by
  rw [List.take_add_one, hx, List.filter_append]
  simp [hf]
theorem sel_skip {f : En → Bool} {s : List En} {k : Nat} {x : En} (hx : s[k]? = some x) (hf : f x = false) : (s.take (k + 1)).filter f = (s.take k).filter f := by
  rw [List.take_add_one, hx, List.filter_append]
  simp [hf]
end Go.Proofs.YtkookkhlgllneaaDoor
