/-
  Plain: the digits of a digest, and why of two digests each has a greater digit (no program is named here but for its name space).
-/
import GoSem.Claim
namespace Go.Proofs.YtkeieacmboidoaaDoor.One
open Go

/-- the four digits of a byte -/
def digB (x : Int) : List Int := [x / 64 % 4, x / 16 % 4, x / 4 % 4, x % 4]
/-- the sum of what the digits lack to the greatest one -/
def lack : List Int → Int
  | [] => 0
  | x :: t => (3 - x) + lack t
def dig64 (d : List Int) : List Int := (d.take 16).flatMap digB
def digs (d : List Int) : List Int := dig64 d ++ digB (lack (dig64 d))
theorem lack_append (a b : List Int) : lack (a ++ b) = lack a + lack b := by
  induction a with
  | nil => simp [lack]
  | cons x t ih => simp only [List.cons_append, lack, ih]; omega
theorem digB_length (x : Int) : (digB x).length = 4 := rfl
theorem flat_length (l : List Int) : (l.flatMap digB).length = 4 * l.length := by
  induction l with
  | nil => rfl
  | cons x t ih => rw [List.flatMap_cons, List.length_append, ih, digB_length, List.length_cons]; omega
theorem dig64_length {d : List Int} (h : d.length = 32) : (dig64 d).length = 64 := by
  unfold dig64; rw [flat_length, List.length_take, h]; rfl
theorem digs_length {d : List Int} (h : d.length = 32) : (digs d).length = 68 := by
  unfold digs; rw [List.length_append, dig64_length h, digB_length]
theorem digB_range {x y : Int} (h : y ∈ digB x) : 0 ≤ y ∧ y ≤ 3 := by
  simp only [digB, List.mem_cons, List.not_mem_nil, or_false] at h
  rcases h with rfl | rfl | rfl | rfl <;> omega
theorem flat_range {l : List Int} {y : Int} (h : y ∈ l.flatMap digB) : 0 ≤ y ∧ y ≤ 3 := by
  obtain ⟨x, _, hy⟩ := List.mem_flatMap.1 h
  exact digB_range hy
theorem digs_range {d : List Int} {y : Int} (h : y ∈ digs d) : 0 ≤ y ∧ y ≤ 3 := by
  unfold digs at h
  rcases List.mem_append.1 h with h | h
  · exact flat_range h
  · exact digB_range h
theorem lack_range {l : List Int} (h : ∀ y ∈ l, 0 ≤ y ∧ y ≤ 3) : 0 ≤ lack l ∧ lack l ≤ 3 * l.length := by
  induction l with
  | nil => simp [lack]
  | cons x t ih =>
    have h1 := h x (by simp)
    have h2 := ih (fun y hy => h y (by simp [hy]))
    simp only [lack, List.length_cons]; omega
theorem lack64 {d : List Int} (h : d.length = 32) : 0 ≤ lack (dig64 d) ∧ lack (dig64 d) ≤ 192 := by
  have := lack_range (l := dig64 d) (fun y hy => flat_range hy)
  rw [dig64_length h] at this; omega
theorem digB_inj {x y : Int} (hx : 0 ≤ x ∧ x ≤ 255) (hy : 0 ≤ y ∧ y ≤ 255) (h : digB x = digB y) : x = y := by
  simp only [digB, List.cons.injEq, and_true] at h
  omega
theorem flat_inj : ∀ {a b : List Int}, a.length = b.length → (∀ x ∈ a, 0 ≤ x ∧ x ≤ 255) → (∀ x ∈ b, 0 ≤ x ∧ x ≤ 255) → a.flatMap digB = b.flatMap digB → a = b
  | [], [], _, _, _, _ => rfl
  | x :: a, y :: b, hl, ha, hb, h => by
    rw [List.flatMap_cons, List.flatMap_cons] at h
    have h1 := (List.append_inj h (by rw [digB_length, digB_length])).1
    have h2 := (List.append_inj h (by rw [digB_length, digB_length])).2
    rw [digB_inj (ha x (by simp)) (hb y (by simp)) h1, flat_inj (by simpa using hl) (fun z hz => ha z (by simp [hz])) (fun z hz => hb z (by simp [hz])) h2]
/-- some place of a has more than b -/
def above (a b : List Int) : Prop := ∃ (i : Nat) (x y : Int), a[i]? = some x ∧ b[i]? = some y ∧ y < x
theorem lack_le : ∀ {a b : List Int}, a.length = b.length → ¬ above a b → lack b ≤ lack a ∧ (a ≠ b → lack b < lack a)
  | [], [], _, _ => by simp
  | x :: a, y :: b, hl, h => by
    have hxy : x ≤ y := by
      by_cases e : x ≤ y
      · exact e
      · exact absurd ⟨0, x, y, rfl, rfl, by omega⟩ h
    have ih := lack_le (a := a) (b := b) (by simpa using hl) (fun ⟨i, u, v, hu, hv, huv⟩ => h ⟨i + 1, u, v, by simpa using hu, by simpa using hv, huv⟩)
    simp only [lack]
    refine ⟨by omega, fun hne => ?_⟩
    by_cases e : x = y
    · have := ih.2 (fun e2 => hne (by rw [e, e2])); omega
    · omega
theorem above_left {a b c d : List Int} (h : above a b) : above (a ++ c) (b ++ d) := by
  obtain ⟨i, x, y, hx, hy, hxy⟩ := h
  exact ⟨i, x, y, by rw [List.getElem?_append_left (List.getElem?_eq_some_iff.1 hx).1]; exact hx, by rw [List.getElem?_append_left (List.getElem?_eq_some_iff.1 hy).1]; exact hy, hxy⟩
theorem above_right {a b c d : List Int} (hl : a.length = b.length) (h : above c d) : above (a ++ c) (b ++ d) := by
  obtain ⟨i, x, y, hx, hy, hxy⟩ := h
  refine ⟨a.length + i, x, y, ?_, ?_, hxy⟩
  · rw [List.getElem?_append_right (by omega), Nat.add_sub_cancel_left]; exact hx
  · rw [hl, List.getElem?_append_right (by omega), Nat.add_sub_cancel_left]; exact hy
theorem above_digB {x y : Int} (hx : 0 ≤ x ∧ x ≤ 255) (hy : 0 ≤ y ∧ y ≤ 255) (h : y < x) : above (digB x) (digB y) := by
  by_cases h3 : y / 64 % 4 < x / 64 % 4
  · exact ⟨0, _, _, rfl, rfl, h3⟩
  · by_cases h2 : y / 16 % 4 < x / 16 % 4
    · exact ⟨1, _, _, rfl, rfl, h2⟩
    · by_cases h1 : y / 4 % 4 < x / 4 % 4
      · exact ⟨2, _, _, rfl, rfl, h1⟩
      · refine ⟨3, _, _, rfl, rfl, ?_⟩
        have e1 : x / 16 = x / 4 / 4 := by omega
        have e2 : y / 16 = y / 4 / 4 := by omega
        have e3 : x / 64 = x / 4 / 4 / 4 := by omega
        have e4 : y / 64 = y / 4 / 4 / 4 := by omega
        rw [e1, e2] at h2; rw [e3, e4] at h3
        clear e1 e2 e3 e4
        omega
theorem digs_above {d e : List Int} (hd : d.length = 32) (he : e.length = 32) (bd : ∀ x ∈ d, 0 ≤ x ∧ x ≤ 255) (be : ∀ x ∈ e, 0 ≤ x ∧ x ≤ 255) (hne : d.take 16 ≠ e.take 16) : above (digs d) (digs e) := by
  by_cases h : above (dig64 d) (dig64 e)
  · exact above_left h
  · have hl : (dig64 d).length = (dig64 e).length := by rw [dig64_length hd, dig64_length he]
    have hne2 : dig64 d ≠ dig64 e := fun e2 => hne (flat_inj (by rw [List.length_take, List.length_take, hd, he]) (fun x hx => bd x (List.mem_of_mem_take hx)) (fun x hx => be x (List.mem_of_mem_take hx)) e2)
    have h1 := (lack_le hl h).2 hne2
    have h2 := lack64 hd
    have h3 := lack64 he
    exact above_right hl (above_digB (by omega) (by omega) h1)
theorem digs_same {d e : List Int} (h : d.take 16 = e.take 16) : digs d = digs e := by
  unfold digs dig64; rw [h]
theorem not_above_self (a : List Int) : ¬ above a a := fun ⟨i, x, y, hx, hy, hxy⟩ => by
  rw [hx] at hy; injection hy with hy; omega
end Go.Proofs.YtkeieacmboidoaaDoor.One
