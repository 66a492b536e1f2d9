/-
  Plain mathematics, without conditions beyond those of each lemma: lists of entries and of changes in ascending order of their paths, two such lists side by side, and what insertion makes (no program is named here but for its name space).
-/
import GoSem.Claim
import Derived.Sort.Walk0
import Derived.Lib.Bytealg
namespace Go.Proofs.YtkookkhlgllneaaDoor
open Go

/-- whether a string stands before another -/
def pls (a b : ByteArray) : Bool := Op.bytesLess a.toList b.toList
theorem pls_iff (a b : ByteArray) : pls a b = true ↔ a.toList < b.toList := by unfold pls; rw [bytesLess_eq]; simp
theorem toList_inj {a b : ByteArray} (h : a.toList = b.toList) : a = b := by
  cases a with | mk a => cases b with | mk b =>
    rw [Lib.toList_data, Lib.toList_data] at h
    exact congrArg _ (Array.toList_inj.1 h)
theorem pls_irrefl (a : ByteArray) : pls a a = false := by
  rw [Bool.eq_false_iff]; intro h; exact List.lt_irrefl _ ((pls_iff a a).1 h)
theorem pls_trans {a b c : ByteArray} (h : pls a b = true) (k : pls b c = true) : pls a c = true :=
  (pls_iff a c).2 (List.lt_trans ((pls_iff a b).1 h) ((pls_iff b c).1 k))
theorem pls_asymm {a b : ByteArray} (h : pls a b = true) : pls b a = false := by
  rw [Bool.eq_false_iff]; intro k; exact absurd (pls_trans h k) (by rw [pls_irrefl]; simp)
theorem pls_tri {a b : ByteArray} (h : pls a b = false) (k : pls b a = false) : a = b := by
  refine toList_inj (List.le_antisymm ?_ ?_)
  · exact fun hh => absurd ((pls_iff b a).2 hh) (by rw [k]; simp)
  · exact fun hh => absurd ((pls_iff a b).2 hh) (by rw [h]; simp)
theorem pls_ne {a b : ByteArray} (h : pls a b = true) : a ≠ b := fun e => by rw [e, pls_irrefl] at h; cases h

/-- an entry: its path, its digest's bytes -/
structure En where
  p : ByteArray
  d : List Int
deriving DecidableEq
/-- a change: its path, what was there, what is there -/
structure Cg where
  p : ByteArray
  o : List Int
  n : List Int
deriving DecidableEq
/-- the zero digest -/
def zed : List Int := List.replicate 32 0
theorem zed_length : zed.length = 32 := rfl

section
variable {α : Type} (f : α → ByteArray)
/-- in ascending order of the paths -/
def Srt (l : List α) : Prop := l.Pairwise fun x y => pls (f x) (f y) = true
/-- whether each of the first k steps goes up -/
def upto (l : List α) (k : Nat) : Bool := (List.range k).all fun i => match l[i]?, l[i + 1]? with
  | some x, some y => pls (f x) (f y)
  | _, _ => true
def ascB (l : List α) : Bool := upto f l (l.length - 1)
variable {f}
theorem upto_zero (l : List α) : upto f l 0 = true := rfl
theorem upto_succ {l : List α} {k : Nat} {x y : α} (hx : l[k]? = some x) (hy : l[k + 1]? = some y) : upto f l (k + 1) = (upto f l k && pls (f x) (f y)) := by
  unfold upto; rw [List.range_succ, List.all_append]; simp [hx, hy]
theorem upto_false {l : List α} {k m : Nat} (h : upto f l k = false) (hm : k ≤ m) : upto f l m = false := by
  unfold upto at h ⊢
  rw [List.all_eq_false] at h ⊢
  obtain ⟨i, hi, hh⟩ := h
  exact ⟨i, by simp at hi ⊢; omega, hh⟩
theorem srt_of_steps : ∀ {l : List α}, (∀ i x y, l[i]? = some x → l[i + 1]? = some y → pls (f x) (f y) = true) → Srt f l
  | [], _ => List.Pairwise.nil
  | [x], _ => List.pairwise_singleton _ _
  | x :: y :: r, h => by
    have h1 := h 0 x y rfl rfl
    have h2 : Srt f (y :: r) := srt_of_steps fun i a b ha hb => h (i + 1) a b ha hb
    refine List.Pairwise.cons (fun z hz => ?_) h2
    rcases List.mem_cons.1 hz with e | hz
    · subst e; exact h1
    · exact pls_trans h1 ((List.pairwise_cons.1 h2).1 z hz)
theorem ascB_iff (l : List α) : ascB f l = true ↔ Srt f l := by
  unfold ascB upto
  rw [List.all_eq_true]
  constructor
  · intro h
    refine srt_of_steps fun i x y hx hy => ?_
    have hl := (List.getElem?_eq_some_iff.1 hy).1
    have := h i (by simp; omega)
    simpa [hx, hy] using this
  · intro h i hi
    have hl : i < l.length - 1 := by simpa using hi
    have h1 : i < l.length := by omega
    have h2 : i + 1 < l.length := by omega
    have := List.pairwise_iff_getElem.1 h i (i + 1) h1 h2 (by omega)
    simpa [h1, h2] using this
theorem Srt.tail {x : α} {l : List α} (h : Srt f (x :: l)) : Srt f l := (List.pairwise_cons.1 h).2
theorem Srt.head {x y : α} {l : List α} (h : Srt f (x :: l)) (hy : y ∈ l) : pls (f x) (f y) = true := (List.pairwise_cons.1 h).1 y hy
/-- one path, one element -/
theorem Srt.one {l : List α} (h : Srt f l) : ∀ {x y : α}, x ∈ l → y ∈ l → f x = f y → x = y := by
  induction l with
  | nil => intro x y hx; cases hx
  | cons z l ih =>
    intro x y hx hy e
    rcases List.mem_cons.1 hx with rfl | hx
    · rcases List.mem_cons.1 hy with rfl | hy
      · rfl
      · exact absurd e (pls_ne (h.head hy))
    · rcases List.mem_cons.1 hy with e' | hy
      · exact absurd (by rw [← e', e]) (pls_ne (Srt.head h hx))
      · exact ih h.tail hx hy e
/-- two ascending lists with the same elements are one -/
theorem Srt.ext : ∀ {a b : List α}, Srt f a → Srt f b → (∀ x, x ∈ a ↔ x ∈ b) → a = b
  | [], [], _, _, _ => rfl
  | [], y :: b, _, _, h => absurd ((h y).2 (by simp)) (by simp)
  | x :: a, [], _, _, h => absurd ((h x).1 (by simp)) (by simp)
  | x :: a, y :: b, ha, hb, h => by
    have hx := (h x).1 (by simp)
    have hy := (h y).2 (by simp)
    have e : x = y := by
      rcases List.mem_cons.1 hx with e | hx
      · exact e
      rcases List.mem_cons.1 hy with e | hy
      · exact e.symm
      · have h1 := pls_asymm (Srt.head ha hy); rw [Srt.head hb hx] at h1; cases h1
    subst e
    have : a = b := Srt.ext ha.tail hb.tail fun z => by
      constructor
      · intro hz
        rcases List.mem_cons.1 ((h z).1 (List.mem_cons_of_mem _ hz)) with e | hz'
        · subst e; exact absurd rfl (pls_ne (ha.head hz))
        · exact hz'
      · intro hz
        rcases List.mem_cons.1 ((h z).2 (List.mem_cons_of_mem _ hz)) with e | hz'
        · subst e; exact absurd rfl (pls_ne (hb.head hz))
        · exact hz'
    rw [this]
/-- an element laid ahead of the first whose path is not smaller -/
def ins (f : α → ByteArray) (l : List α) (x : α) : List α := l.takeWhile (fun y => pls (f y) (f x)) ++ x :: l.dropWhile (fun y => pls (f y) (f x))
theorem ins_nil (x : α) : ins f [] x = [x] := rfl
theorem ins_cons (y : α) (l : List α) (x : α) : ins f (y :: l) x = if pls (f y) (f x) then y :: ins f l x else x :: y :: l := by
  unfold ins
  by_cases h : pls (f y) (f x) = true
  · simp [h]
  · have h' : pls (f y) (f x) = false := by simpa using h
    simp [h']
theorem mem_ins {l : List α} {x z : α} : z ∈ ins f l x ↔ z = x ∨ z ∈ l := by
  induction l with
  | nil => simp [ins_nil]
  | cons y l ih =>
    rw [ins_cons]
    split
    · rw [List.mem_cons, ih, List.mem_cons]
      constructor
      · rintro (h | h | h)
        · exact .inr (.inl h)
        · exact .inl h
        · exact .inr (.inr h)
      · rintro (h | h | h)
        · exact .inr (.inl h)
        · exact .inl h
        · exact .inr (.inr h)
    · rw [List.mem_cons]
theorem length_ins (l : List α) (x : α) : (ins f l x).length = l.length + 1 := by
  induction l with
  | nil => rfl
  | cons y l ih => rw [ins_cons]; split <;> simp [ih]
theorem Srt.ins {l : List α} {x : α} (h : Srt f l) (hn : ∀ y ∈ l, f y ≠ f x) : Srt f (ins f l x) := by
  induction l with
  | nil => exact List.pairwise_singleton _ _
  | cons y l ih =>
    rw [ins_cons]
    split
    · rename_i hy
      refine List.Pairwise.cons (fun z hz => ?_) (ih h.tail fun w hw => hn w (List.mem_cons_of_mem _ hw))
      rcases mem_ins.1 hz with e | hz
      · subst e; exact hy
      · exact h.head hz
    · rename_i hy
      have hy' : pls (f y) (f x) = false := by simpa using hy
      have hxy : pls (f x) (f y) = true := by
        by_cases hh : pls (f x) (f y) = true
        · exact hh
        · exact absurd (pls_tri hy' (by simpa using hh)) (hn y (by simp))
      refine List.Pairwise.cons (fun z hz => ?_) h
      rcases List.mem_cons.1 hz with e | hz
      · subst e; exact hxy
      · exact pls_trans hxy (h.head hz)
end

/-! ### two lists of changes side by side -/
def kp (p : ByteArray) (d : List Int) : Cg := ⟨p, d, d⟩
def sbs : List Cg → List Cg → List (Cg × Cg)
  | [], b => b.map fun y => (kp y.p y.o, y)
  | x :: a, [] => (x :: a).map fun x => (x, kp x.p x.n)
  | x :: a, y :: b =>
    if pls x.p y.p then (x, kp x.p x.n) :: sbs a (y :: b)
    else if pls y.p x.p then (kp y.p y.o, y) :: sbs (x :: a) b
    else (x, y) :: sbs a b
termination_by a b => a.length + b.length
theorem sbs_nil (b : List Cg) : sbs [] b = b.map fun y => (kp y.p y.o, y) := by unfold sbs; rfl
theorem sbs_nil_right (a : List Cg) : sbs a [] = a.map fun x => (x, kp x.p x.n) := by
  cases a with
  | nil => unfold sbs; rfl
  | cons x a => unfold sbs; rfl
theorem sbs_lt {x y : Cg} {a b : List Cg} (h : pls x.p y.p = true) : sbs (x :: a) (y :: b) = (x, kp x.p x.n) :: sbs a (y :: b) := by rw [sbs, if_pos h]
theorem sbs_gt {x y : Cg} {a b : List Cg} (h0 : pls x.p y.p = false) (h : pls y.p x.p = true) : sbs (x :: a) (y :: b) = (kp y.p y.o, y) :: sbs (x :: a) b := by rw [sbs, if_neg (by simp [h0]), if_pos h]
theorem sbs_eq {x y : Cg} {a b : List Cg} (h0 : pls x.p y.p = false) (h : pls y.p x.p = false) : sbs (x :: a) (y :: b) = (x, y) :: sbs a b := by rw [sbs, if_neg (by simp [h0]), if_neg (by simp [h])]
def okP (q : Cg × Cg) : Bool := decide (q.1.n = q.2.o)
def outP (q : Cg × Cg) : Option Cg := if q.1.o = q.2.n then none else some ⟨q.1.p, q.1.o, q.2.n⟩
/-- the changes that have the effect of two lists, one behind the other -/
def fol (a b : List Cg) : Option (List Cg) := if (sbs a b).all okP then some ((sbs a b).filterMap outP) else none

/-- the pairs that two lists have side by side -/
def Side (a b : List Cg) (q : Cg × Cg) : Prop := (q.1 ∈ a ∧ q.2 ∈ b ∧ q.1.p = q.2.p) ∨ (q.1 ∈ a ∧ (∀ z ∈ b, z.p ≠ q.1.p) ∧ q.2 = kp q.1.p q.1.n) ∨ (q.2 ∈ b ∧ (∀ z ∈ a, z.p ≠ q.2.p) ∧ q.1 = kp q.2.p q.2.o)
theorem Side.same {a b : List Cg} {q : Cg × Cg} (h : Side a b q) : q.1.p = q.2.p := by
  rcases h with ⟨_, _, h⟩ | ⟨_, _, h⟩ | ⟨_, _, h⟩
  · exact h
  · rw [h]; rfl
  · rw [h]; rfl
theorem mem_sbs : ∀ (a b : List Cg), Srt Cg.p a → Srt Cg.p b → ∀ q, q ∈ sbs a b ↔ Side a b q
  | [], b, _, _, q => by
    rw [sbs_nil, List.mem_map]
    constructor
    · rintro ⟨y, hy, rfl⟩; exact .inr (.inr ⟨hy, by simp, rfl⟩)
    · rintro (⟨h, _⟩ | ⟨h, _⟩ | ⟨h, _, e⟩)
      · cases h
      · cases h
      · exact ⟨q.2, h, by rw [← e]⟩
  | x :: a, [], _, _, q => by
    rw [sbs_nil_right, List.mem_map]
    constructor
    · rintro ⟨y, hy, rfl⟩; exact .inr (.inl ⟨hy, by simp, rfl⟩)
    · rintro (⟨_, h, _⟩ | ⟨h, _, e⟩ | ⟨h, _⟩)
      · cases h
      · exact ⟨q.1, h, by rw [← e]⟩
      · cases h
  | x :: a, y :: b, ha, hb, q => by
    by_cases h1 : pls x.p y.p = true
    · rw [sbs_lt h1, List.mem_cons, mem_sbs a (y :: b) ha.tail hb q]
      have hx : ∀ z ∈ y :: b, z.p ≠ x.p := fun z hz e => by
        rcases List.mem_cons.1 hz with rfl | hz
        · exact pls_ne h1 e.symm
        · exact pls_ne (pls_trans h1 (hb.head hz)) e.symm
      constructor
      · rintro (rfl | ⟨h, k, e⟩ | ⟨h, k, e⟩ | ⟨h, k, e⟩)
        · exact .inr (.inl ⟨by simp, hx, rfl⟩)
        · exact .inl ⟨List.mem_cons_of_mem _ h, k, e⟩
        · exact .inr (.inl ⟨List.mem_cons_of_mem _ h, k, e⟩)
        · refine .inr (.inr ⟨h, fun z hz => ?_, e⟩)
          rcases List.mem_cons.1 hz with rfl | hz
          · exact fun e => hx _ h e.symm
          · exact k z hz
      · rintro (⟨h, k, e⟩ | ⟨h, k, e⟩ | ⟨h, k, e⟩)
        · rcases List.mem_cons.1 h with e' | h
          · exact absurd (by rw [← e, e']) (hx _ k)
          · exact .inr (.inl ⟨h, k, e⟩)
        · rcases List.mem_cons.1 h with e' | h
          · exact .inl (by rw [← e', ← e])
          · exact .inr (.inr (.inl ⟨h, k, e⟩))
        · exact .inr (.inr (.inr ⟨h, fun z hz => k z (List.mem_cons_of_mem _ hz), e⟩))
    · have h1 : pls x.p y.p = false := by simpa using h1
      by_cases h2 : pls y.p x.p = true
      · rw [sbs_gt h1 h2, List.mem_cons, mem_sbs (x :: a) b ha hb.tail q]
        have hx : ∀ z ∈ x :: a, z.p ≠ y.p := fun z hz e => by
          rcases List.mem_cons.1 hz with rfl | hz
          · exact pls_ne h2 e.symm
          · exact pls_ne (pls_trans h2 (ha.head hz)) e.symm
        constructor
        · rintro (rfl | ⟨h, k, e⟩ | ⟨h, k, e⟩ | ⟨h, k, e⟩)
          · exact .inr (.inr ⟨by simp, hx, rfl⟩)
          · exact .inl ⟨h, List.mem_cons_of_mem _ k, e⟩
          · refine .inr (.inl ⟨h, fun z hz => ?_, e⟩)
            rcases List.mem_cons.1 hz with rfl | hz
            · exact fun e => hx _ h e.symm
            · exact k z hz
          · exact .inr (.inr ⟨List.mem_cons_of_mem _ h, k, e⟩)
        · rintro (⟨h, k, e⟩ | ⟨h, k, e⟩ | ⟨h, k, e⟩)
          · rcases List.mem_cons.1 k with e' | k
            · exact absurd (by rw [e, e']) (hx _ h)
            · exact .inr (.inl ⟨h, k, e⟩)
          · exact .inr (.inr (.inl ⟨h, fun z hz => k z (List.mem_cons_of_mem _ hz), e⟩))
          · rcases List.mem_cons.1 h with e' | h
            · exact .inl (by rw [← e', ← e])
            · exact .inr (.inr (.inr ⟨h, k, e⟩))
      · have h2 : pls y.p x.p = false := by simpa using h2
        have hxy := pls_tri h1 h2
        rw [sbs_eq h1 h2, List.mem_cons, mem_sbs a b ha.tail hb.tail q]
        have hxa : ∀ z ∈ a, z.p ≠ x.p := fun z hz e => pls_ne (ha.head hz) e.symm
        have hyb : ∀ z ∈ b, z.p ≠ y.p := fun z hz e => pls_ne (hb.head hz) e.symm
        constructor
        · rintro (rfl | ⟨h, k, e⟩ | ⟨h, k, e⟩ | ⟨h, k, e⟩)
          · exact .inl ⟨by simp, by simp, hxy⟩
          · exact .inl ⟨List.mem_cons_of_mem _ h, List.mem_cons_of_mem _ k, e⟩
          · refine .inr (.inl ⟨List.mem_cons_of_mem _ h, fun z hz => ?_, e⟩)
            rcases List.mem_cons.1 hz with rfl | hz
            · rw [← hxy]; exact fun e => hxa _ h e.symm
            · exact k z hz
          · refine .inr (.inr ⟨List.mem_cons_of_mem _ h, fun z hz => ?_, e⟩)
            rcases List.mem_cons.1 hz with rfl | hz
            · rw [hxy]; exact fun e => hyb _ h e.symm
            · exact k z hz
        · rintro (⟨h, k, e⟩ | ⟨h, k, e⟩ | ⟨h, k, e⟩)
          · rcases List.mem_cons.1 h with e1 | h
            · rcases List.mem_cons.1 k with e2 | k
              · exact .inl (by rw [← e1, ← e2])
              · exact absurd (by rw [← e, e1, hxy]) (hyb _ k)
            · rcases List.mem_cons.1 k with e2 | k
              · exact absurd (by rw [e, e2, hxy]) (hxa _ h)
              · exact .inr (.inl ⟨h, k, e⟩)
          · rcases List.mem_cons.1 h with e1 | h
            · exact absurd (by rw [e1, hxy]) (k y (by simp))
            · exact .inr (.inr (.inl ⟨h, fun z hz => k z (List.mem_cons_of_mem _ hz), e⟩))
          · rcases List.mem_cons.1 h with e1 | h
            · exact absurd (by rw [e1, hxy]) (k x (by simp))
            · exact .inr (.inr (.inr ⟨h, fun z hz => k z (List.mem_cons_of_mem _ hz), e⟩))
termination_by a b => a.length + b.length
theorem srt_sbs : ∀ (a b : List Cg), Srt Cg.p a → Srt Cg.p b → Srt (fun q : Cg × Cg => q.1.p) (sbs a b)
  | [], b, _, hb => by rw [sbs_nil]; exact List.pairwise_map.2 hb
  | x :: a, [], ha, _ => by rw [sbs_nil_right]; exact List.pairwise_map.2 ha
  | x :: a, y :: b, ha, hb => by
    by_cases h1 : pls x.p y.p = true
    · rw [sbs_lt h1]
      refine List.Pairwise.cons (fun q hq => ?_) (srt_sbs a (y :: b) ha.tail hb)
      rcases (mem_sbs a (y :: b) ha.tail hb q).1 hq with ⟨h, _, _⟩ | ⟨h, _, _⟩ | ⟨h, _, e⟩
      · exact ha.head h
      · exact ha.head h
      · show pls x.p q.1.p = true
        rw [e]; show pls x.p q.2.p = true
        rcases List.mem_cons.1 h with e' | h
        · rw [e']; exact h1
        · exact pls_trans h1 (hb.head h)
    · have h1 : pls x.p y.p = false := by simpa using h1
      by_cases h2 : pls y.p x.p = true
      · rw [sbs_gt h1 h2]
        refine List.Pairwise.cons (fun q hq => ?_) (srt_sbs (x :: a) b ha hb.tail)
        have hk : ∀ z ∈ x :: a, pls y.p z.p = true := fun z hz => by
          rcases List.mem_cons.1 hz with rfl | hz
          · exact h2
          · exact pls_trans h2 (ha.head hz)
        rcases (mem_sbs (x :: a) b ha hb.tail q).1 hq with ⟨h, _, _⟩ | ⟨h, _, _⟩ | ⟨h, _, e⟩
        · exact hk _ h
        · exact hk _ h
        · show pls y.p q.1.p = true
          rw [e]; exact (Srt.head hb (y := q.2) h : pls y.p q.2.p = true)
      · have h2 : pls y.p x.p = false := by simpa using h2
        have hxy := pls_tri h1 h2
        rw [sbs_eq h1 h2]
        refine List.Pairwise.cons (fun q hq => ?_) (srt_sbs a b ha.tail hb.tail)
        rcases (mem_sbs a b ha.tail hb.tail q).1 hq with ⟨h, _, _⟩ | ⟨h, _, _⟩ | ⟨h, _, e⟩
        · exact ha.head h
        · exact ha.head h
        · show pls x.p q.1.p = true
          rw [e, hxy]; exact (Srt.head hb (y := q.2) h : pls y.p q.2.p = true)
termination_by a b => a.length + b.length
theorem outP_path {q : Cg × Cg} {z : Cg} (h : outP q = some z) : z.p = q.1.p := by
  unfold outP at h; split at h
  · cases h
  · injection h with h; rw [← h]
theorem srt_fol {a b l : List Cg} (ha : Srt Cg.p a) (hb : Srt Cg.p b) (h : fol a b = some l) : Srt Cg.p l := by
  unfold fol at h; split at h
  · injection h with h; subst h
    refine List.pairwise_filterMap.2 ((srt_sbs a b ha hb).imp ?_)
    intro x y hxy u hu v hv
    rw [outP_path hu, outP_path hv]; exact hxy
  · cases h
/-- what a list finds at a path -/
def fd (l : List Cg) (p : ByteArray) : Option Cg := l.find? fun x => decide (x.p = p)
theorem fd_some {l : List Cg} {p : ByteArray} {x : Cg} (h : fd l p = some x) : x ∈ l ∧ x.p = p := ⟨List.mem_of_find?_eq_some h, by simpa using List.find?_some h⟩
theorem fd_none {l : List Cg} {p : ByteArray} (h : fd l p = none) : ∀ x ∈ l, x.p ≠ p := fun x hx e => by
  have := List.find?_eq_none.1 h x hx; simp [e] at this
theorem fd_of {l : List Cg} (hl : Srt Cg.p l) {x : Cg} (hx : x ∈ l) : fd l x.p = some x := by
  cases h : fd l x.p with
  | none => exact absurd rfl (fd_none h x hx)
  | some y => rw [hl.one (fd_some h).1 hx (fd_some h).2]
theorem fd_not {l : List Cg} {p : ByteArray} (h : ∀ x ∈ l, x.p ≠ p) : fd l p = none := by
  cases e : fd l p with
  | none => rfl
  | some y => exact absurd (fd_some e).2 (h y (fd_some e).1)

/-! ### the reference's composition -/
def rc1 (b : List Cg) (out : List Cg) (x : Cg) : Option (List Cg) := match fd b x.p with
  | none => some (ins Cg.p out x)
  | some y => if x.n = y.o then (if x.o = y.n then some out else some (ins Cg.p out ⟨y.p, x.o, y.n⟩)) else none
def rc2 (a : List Cg) (out : List Cg) (y : Cg) : List Cg := match fd a y.p with
  | none => ins Cg.p out y
  | some _ => out
def rcomp (a b : List Cg) : Option (List Cg) := (a.foldlM (rc1 b) []).map fun l => b.foldl (rc2 a) l
end Go.Proofs.YtkookkhlgllneaaDoor
