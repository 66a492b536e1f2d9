/-
  Stable sorting, plain: the runs of a stable sort from the bottom up. No program is spoken of here.
-/
import Derived.Test.YtdjknefbaclleaaGreatDoorStbM
namespace Go.Proofs.YtdjknefbaclleaaGreatDoor
open Go.Sort
section
variable {β : Type} [Inhabited β]

/-- from x on s places (up to n): ascending, and with the tags of these places -/
def Run (lt : β → β → Bool) (n s x : Nat) (d : Array (β × Nat)) : Prop :=
  (∀ i j, x ≤ i → i < j → j < x + s → j < n → tl lt d[i]! d[j]! = true) ∧ ∀ k, x ≤ k → k < x + s → k < n → x ≤ d[k]!.2 ∧ d[k]!.2 < x + s
theorem Run.congr {lt : β → β → Bool} {n s x : Nat} {d e : Array (β × Nat)} (h : Run lt n s x d) (he : ∀ k, x ≤ k → k < x + s → k < n → e[k]! = d[k]!) : Run lt n s x e :=
  ⟨fun i j h1 h2 h3 h4 => by rw [he i h1 (by omega) (by omega), he j (by omega) h3 h4]; exact h.1 i j h1 h2 h3 h4, fun k h1 h2 h3 => by rw [he k h1 h2 h3]; exact h.2 k h1 h2 h3⟩
theorem Run.far {lt : β → β → Bool} {n s x : Nat} (h : n ≤ x) (d : Array (β × Nat)) : Run lt n s x d := ⟨fun i j h1 h2 h3 h4 => by omega, fun k h1 h2 h3 => by omega⟩
/-- the first phase -/
structure Ph1 (lt : β → β → Bool) (n q : Nat) (d : Array (β × Nat)) : Prop where
  done : ∀ p, p < q → Run lt n 20 (20 * p) d
  todo : ∀ k, 20 * q ≤ k → k < n → d[k]!.2 = k
theorem Ph1.asc {lt : β → β → Bool} {n q : Nat} {d : Array (β × Nat)} (h : Ph1 lt n q d) {a b : Nat} (ha : 20 * q ≤ a) (hb : b ≤ n) : ∀ i j, a ≤ i → i < j → j < b → d[i]!.2 < d[j]!.2 := fun i j h1 h2 h3 => by
  rw [h.todo i (by omega) (by omega), h.todo j (by omega) (by omega)]; exact h2
theorem Ph1.step {lt : β → β → Bool} {n q b : Nat} {d e : Array (β × Nat)} (h : Ph1 lt n q d) (hn : n = d.size) (hb : b = 20 * q + 20 ∨ b = n) (hb2 : b ≤ 20 * q + 20) (hbn : b ≤ n) (p : PermIn (20 * q) b d e) (s : StO lt (20 * q) b e) :
    (∀ r, r < q + 1 → Run lt n 20 (20 * r) e) ∧ (∀ k, b ≤ k → k < n → e[k]!.2 = k) := by
  refine ⟨fun r hr => ?_, fun k h1 h2 => ?_⟩
  · by_cases hrq : r < q
    · exact (h.done r hrq).congr (fun k h1 h2 h3 => p.2.1 k (.inl (by omega)))
    · obtain rfl : r = q := by omega
      refine ⟨fun i j h1 h2 h3 h4 => s i j h1 h2 (by omega), fun k h1 h2 h3 => ?_⟩
      refine permIn_all d e (20 * r) b (fun x => 20 * r ≤ x.2 ∧ x.2 < 20 * r + 20) (by omega) p (fun i i1 i2 => ?_) k h1 (by omega)
      rw [h.todo i i1 (by omega)]; omega
  · by_cases hk : b ≤ k
    · rw [p.2.1 k (.inr h1)]; exact h.todo k (by omega) h2
    · omega
/-- the second phase: runs of s, those of 2 s before the p-th made -/
structure Ph2 (lt : β → β → Bool) (n s p : Nat) (d : Array (β × Nat)) : Prop where
  done : ∀ r, r < p → Run lt n (2 * s) (2 * s * r) d
  todo : ∀ q, 2 * p ≤ q → Run lt n s (s * q) d
theorem run_at (s p : Nat) : s * (2 * p) = 2 * s * p ∧ s * (2 * p + 1) = 2 * s * p + s ∧ s * (2 * p + 2) = 2 * s * p + 2 * s := by
  have e : s * (2 * p) = 2 * s * p := by rw [← Nat.mul_assoc, Nat.mul_comm s 2]
  refine ⟨e, by rw [Nat.mul_add, e, Nat.mul_one], by rw [Nat.mul_add, e, Nat.mul_comm s 2]⟩
theorem Ph2.l {lt : β → β → Bool} {n s p : Nat} {d : Array (β × Nat)} (h : Ph2 lt n s p d) : Run lt n s (2 * s * p) d := by
  have := h.todo (2 * p) (Nat.le_refl _); rwa [(run_at s p).1] at this
theorem Ph2.r {lt : β → β → Bool} {n s p : Nat} {d : Array (β × Nat)} (h : Ph2 lt n s p d) : Run lt n s (2 * s * p + s) d := by
  have := h.todo (2 * p + 1) (by omega); rwa [(run_at s p).2.1] at this
theorem Ph2.pre {lt : β → β → Bool} {n s p b : Nat} {d : Array (β × Nat)} (h : Ph2 lt n s p d) (hn : n = d.size) (hb : b ≤ 2 * s * p + 2 * s) (hbn : b ≤ n) (hm : 2 * s * p + s < b) : SmPre lt (2 * s * p) (2 * s * p + s) b d := by
  have hl := h.l; have hr := h.r
  generalize 2 * s * p = a at *
  exact ⟨fun i j h1 h2 h3 => hl.1 i j h1 h2 h3 (by omega), fun i j h1 h2 h3 => hr.1 i j h1 h2 (by omega) (by omega), fun i j h1 h2 h3 h4 => by
    have e1 := hl.2 i h1 h2 (by omega); have e2 := hr.2 j h3 (by omega) (by omega); omega, by omega⟩
theorem Ph2.step {lt : β → β → Bool} {n s p b : Nat} {d e : Array (β × Nat)} (h : Ph2 lt n s p d) (hn : n = d.size) (hb : b = 2 * s * p + 2 * s ∨ (b = n ∧ n ≤ 2 * s * p + 2 * s)) (hbn : b ≤ n) (pe : PermIn (2 * s * p) b d e) (st : StO lt (2 * s * p) b e) :
    Ph2 lt n s (p + 1) e := by
  have hl := h.l; have hr := h.r
  refine ⟨fun r hr2 => ?_, fun q hq => ?_⟩
  · by_cases hrp : r < p
    · have hle : 2 * s * r + 2 * s ≤ 2 * s * p := by
        have := Nat.mul_le_mul_left (2 * s) (show r + 1 ≤ p by omega); rw [Nat.mul_add, Nat.mul_one] at this; exact this
      exact (h.done r hrp).congr (fun k h1 h2 h3 => pe.2.1 k (.inl (by omega)))
    · obtain rfl : r = p := by omega
      generalize 2 * s * r = a at *
      refine ⟨fun i j h1 h2 h3 h4 => st i j h1 h2 (by omega), fun k h1 h2 h3 => ?_⟩
      refine permIn_all d e a b (fun x => a ≤ x.2 ∧ x.2 < a + 2 * s) (by omega) pe (fun i i1 i2 => ?_) k h1 (by omega)
      by_cases his : i < a + s
      · have := hl.2 i i1 his (by omega); omega
      · have := hr.2 i (by omega) (by omega) (by omega); omega
  · have hle : 2 * s * p + 2 * s ≤ s * q := by
      have := Nat.mul_le_mul_left s (show 2 * p + 2 ≤ q by omega); rw [(run_at s p).2.2] at this; exact this
    exact (h.todo q (by omega)).congr (fun k h1 h2 h3 => pe.2.1 k (.inr (by omega)))
/-- nothing to merge at the end -/
theorem Ph2.rest {lt : β → β → Bool} {n s p : Nat} {d : Array (β × Nat)} (h : Ph2 lt n s p d) (hm : n ≤ 2 * s * p + s) : Ph2 lt n s (p + 1) d := by
  have hl := h.l
  refine ⟨fun r hr2 => ?_, fun q hq => h.todo q (by omega)⟩
  by_cases hrp : r < p
  · exact h.done r hrp
  · obtain rfl : r = p := by omega
    generalize 2 * s * r = a at *
    exact ⟨fun i j h1 h2 h3 h4 => hl.1 i j h1 h2 (by omega) h4, fun k h1 h2 h3 => by have := hl.2 k h1 (by omega) h3; omega⟩
theorem Ph2.next {lt : β → β → Bool} {n s p : Nat} {d : Array (β × Nat)} (h : Ph2 lt n s p d) (hp : n ≤ 2 * s * p) : Ph2 lt n (2 * s) 0 d := by
  refine ⟨fun r hr => absurd hr (by omega), fun q _ => ?_⟩
  by_cases hq : q < p
  · exact h.done q hq
  · have := Nat.mul_le_mul_left (2 * s) (show p ≤ q by omega)
    exact Run.far (by omega) d
theorem Ph2.fin {lt : β → β → Bool} {n s : Nat} {d : Array (β × Nat)} (h : Ph2 lt n s 0 d) (hs : n ≤ s) : StO lt 0 n d := by
  have := h.todo 0 (by omega)
  rw [Nat.mul_zero] at this
  exact fun i j h1 h2 h3 => this.1 i j h1 h2 (by omega) h3
theorem Ph1.fin {lt : β → β → Bool} {n q : Nat} {e : Array (β × Nat)} (h : ∀ r, r < q + 1 → Run lt n 20 (20 * r) e) (hn : n ≤ 20 * q + 20) : Ph2 lt n 20 0 e :=
  ⟨fun r hr => absurd hr (by omega), fun p _ => if hp : p < q + 1 then h p hp else Run.far (by omega) e⟩
end
end Go.Proofs.YtdjknefbaclleaaGreatDoor
