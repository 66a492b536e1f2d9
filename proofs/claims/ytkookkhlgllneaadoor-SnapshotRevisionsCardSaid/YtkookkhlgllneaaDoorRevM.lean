/-
  The document of a snapshot's lines is never too large: plain mathematics.
-/
import Derived.Test.YtkookkhlgllneaaDoorGk
import Derived.Test.YtkookkhlgllneaaDoorGj
namespace Go.Proofs.YtkookkhlgllneaaDoor
open Go.RowKit

/-- the tag of a source's lines: file -/
def tagF : ByteArray := ⟨#[102, 105, 108, 101]⟩
theorem body_le200 {l : List ByteArray} (hs : ∀ s ∈ l, s.size ≤ 200) : (body l).length ≤ 602 * l.length := by
  induction l with
  | nil => simp [body]
  | cons a t ih =>
    have h1 := ih (fun s hs' => hs s (List.mem_cons_of_mem _ hs'))
    have h2 := hs a (List.mem_cons_self ..)
    have h3 := wordL_le a.data.toList
    rw [← Lib.size_eq] at h3
    unfold body at h1 ⊢
    simp only [List.flatMap_cons, List.length_append, List.length_cons, List.length_nil]
    omega
theorem lineE_small {x : En} (hp : x.p.size ≤ 200) (hd : x.d.length = 32) : ∀ s ∈ lineE tagF x, s.size ≤ 200 := by
  intro s hs
  unfold lineE at hs
  rcases List.mem_cons.1 hs with rfl | hs
  · show (4 : Nat) ≤ 200; omega
  rcases List.mem_cons.1 hs with rfl | hs
  · exact hp
  rcases List.mem_cons.1 hs with rfl | hs
  · rw [fmtD_size _ hd]; omega
  · cases hs
theorem lineL_le200 {x : En} (hp : x.p.size ≤ 200) (hd : x.d.length = 32) : (lineL (lineE tagF x)).length ≤ 1806 := by
  rw [lineL_length (by simp [lineE])]
  have := body_le200 (lineE_small hp hd)
  have e : (lineE tagF x).length = 3 := rfl
  omega
theorem chkLine_E {x : En} (hp : x.p.size ≤ 200) (hd : x.d.length = 32) : chkLine (lineE tagF x) = 0 := by
  refine chkLine_good (by simp [lineE]) (by simp [lineE]) ?_
  rw [List.any_eq_false]
  intro s hs
  have := lineE_small hp hd s hs
  unfold lng
  simp; omega
theorem firstBad_none : ∀ {ls : List (List ByteArray)}, (∀ l ∈ ls, chkLine l = 0) → firstBad ls = 0
  | [], _ => rfl
  | l :: r, h => by
    unfold firstBad
    rw [if_pos (h l (by simp))]
    exact firstBad_none fun l' hl => h l' (by simp [hl])
theorem encL_cons (l : List ByteArray) (r : List (List ByteArray)) : encL (l :: r) = lineL l ++ encL r := by unfold encL; rw [List.flatMap_cons]
theorem encL_le1806 : ∀ {s : List En}, (∀ x ∈ s, x.p.size ≤ 200 ∧ x.d.length = 32) → (encL (s.map (lineE tagF))).length ≤ 1806 * s.length
  | [], _ => by simp [encL]
  | x :: s, h => by
    rw [List.map_cons, encL_cons, List.length_append, List.length_cons]
    have h1 := encL_le1806 (s := s) fun y hy => h y (by simp [hy])
    have h2 := lineL_le200 (h x (by simp)).1 (h x (by simp)).2
    omega
theorem enc_snap {s : List En} (h : ∀ x ∈ s, x.p.size ≤ 200 ∧ x.d.length = 32) (hl : s.length ≤ 64) : enc (s.map (lineE tagF)) = (0, encL (s.map (lineE tagF))) := by
  refine enc_good ?_ ?_
  · unfold chk
    rw [if_neg (by rw [List.length_map]; omega)]
    refine firstBad_none fun l hl' => ?_
    obtain ⟨x, hx, rfl⟩ := List.mem_map.1 hl'
    exact chkLine_E (h x hx).1 (h x hx).2
  · have := encL_le1806 h
    omega
theorem encL_empty {s : List En} : decide ((encL (s.map (lineE tagF))).length > 0) = decide (s.length > 0) := by
  cases s with
  | nil => rfl
  | cons x s =>
    rw [List.map_cons, encL_cons, List.length_append, List.length_cons]
    have : 0 < (lineL (lineE tagF x)).length := by unfold lineL; simp
    rw [decide_eq_true (by omega), decide_eq_true (by omega)]
end Go.Proofs.YtkookkhlgllneaaDoor
