/-
  Plain mathematics, without conditions beyond those of each lemma: lists of entries and of changes in ascending order of their paths, two such lists side by side, and what insertion makes (no program is named here but for its name space).
-/
import GoSem.Claim
import Derived.Sort.Walk0
import Derived.Lib.Bytealg
import Derived.Test.YtkookkhlgllneaaDoorProg
import Derived.WalkKit
import Derived.WalkSpells
import Derived.WalkLawsBesides
import Derived.ChangeKeysEq
import Derived.Deep.MidRow
import Derived.Laws.Tables
import Derived.Great.BuildSlice
import Derived.Laws.CopyOwn
import Derived.Below
import Derived.Lib.Hide
import Derived.Test.YtkookkhlgllneaaDoorGa
import Derived.Deep.RegionHeld3
import Derived.Deep.RegionWith
import Derived.IntWalk
import Derived.Laws.Cover1
import Derived.OwnWalk
import Derived.Laws.AppendOwn
namespace Go.Proofs.YtkookkhlgllneaaDoor
open Go

/-- whether a string stands before another -/
def pls (a b : ByteArray) : Bool := Op.bytesLess a.toList b.toList
theorem pls_iff (a b : ByteArray) : pls a b = true ↔ a.toList < b.toList := by unfold pls; rw [bytesLess_eq]; simp
theorem toList_inj {a b : ByteArray} (h : a.toList = b.toList) : a = b := by
  cases a with | mk a => cases b with | mk b =>
    rw [Lib.toList_data, Lib.toList_data] at h
    exact congrArg _ (Array.toList_inj.1 h)
theorem pls_irrefl (a : ByteArray) : pls a a = false := by
  rw [Bool.eq_false_iff]; intro h; exact List.lt_irrefl _ ((pls_iff a a).1 h)
theorem pls_trans {a b c : ByteArray} (h : pls a b = true) (k : pls b c = true) : pls a c = true :=
  (pls_iff a c).2 (List.lt_trans ((pls_iff a b).1 h) ((pls_iff b c).1 k))
theorem pls_asymm {a b : ByteArray} (h : pls a b = true) : pls b a = false := by
  rw [Bool.eq_false_iff]; intro k; exact absurd (pls_trans h k) (by rw [pls_irrefl]; simp)
theorem pls_tri {a b : ByteArray} (h : pls a b = false) (k : pls b a = false) : a = b := by
  refine toList_inj (List.le_antisymm ?_ ?_)
  · exact fun hh => absurd ((pls_iff b a).2 hh) (by rw [k]; simp)
  · exact fun hh => absurd ((pls_iff a b).2 hh) (by rw [h]; simp)
theorem pls_ne {a b : ByteArray} (h : pls a b = true) : a ≠ b := fun e => by rw [e, pls_irrefl] at h; cases h

/-- an entry: its path, its digest's bytes -/
structure En where
  p : ByteArray
  d : List Int
deriving DecidableEq
/-- a change: its path, what was there, what is there -/
structure Cg where
  p : ByteArray
  o : List Int
  n : List Int
deriving DecidableEq
/-- the zero digest -/
def zed : List Int := List.replicate 32 0
theorem zed_length : zed.length = 32 := rfl

section
variable {α : Type} (f : α → ByteArray)
/-- in ascending order of the paths -/
def Srt (l : List α) : Prop := l.Pairwise fun x y => pls (f x) (f y) = true
/-- whether each of the first k steps goes up -/
def upto (l : List α) (k : Nat) : Bool := (List.range k).all fun i => match l[i]?, l[i + 1]? with
  | some x, some y => pls (f x) (f y)
  | _, _ => true
def ascB (l : List α) : Bool := upto f l (l.length - 1)
variable {f}
theorem upto_zero (l : List α) : upto f l 0 = true := rfl
theorem upto_succ {l : List α} {k : Nat} {x y : α} (hx : l[k]? = some x) (hy : l[k + 1]? = some y) : upto f l (k + 1) = (upto f l k && pls (f x) (f y)) := by
  unfold upto; rw [List.range_succ, List.all_append]; simp [hx, hy]
theorem upto_false {l : List α} {k m : Nat} (h : upto f l k = false) (hm : k ≤ m) : upto f l m = false := by
  unfold upto at h ⊢
  rw [List.all_eq_false] at h ⊢
  obtain ⟨i, hi, hh⟩ := h
  exact ⟨i, by simp at hi ⊢; omega, hh⟩
theorem srt_of_steps : ∀ {l : List α}, (∀ i x y, l[i]? = some x → l[i + 1]? = some y → pls (f x) (f y) = true) → Srt f l
  | [], _ => List.Pairwise.nil
  | [x], _ => List.pairwise_singleton _ _
  | x :: y :: r, h => by
    have h1 := h 0 x y rfl rfl
    have h2 : Srt f (y :: r) := srt_of_steps fun i a b ha hb => h (i + 1) a b ha hb
    refine List.Pairwise.cons (fun z hz => ?_) h2
    rcases List.mem_cons.1 hz with e | hz
    · subst e; exact h1
    · exact pls_trans h1 ((List.pairwise_cons.1 h2).1 z hz)
theorem ascB_iff (l : List α) : ascB f l = true ↔ Srt f l := by
  unfold ascB upto
  rw [List.all_eq_true]
  constructor
  · intro h
    refine srt_of_steps fun i x y hx hy => ?_
    have hl := (List.getElem?_eq_some_iff.1 hy).1
    have := h i (by simp; omega)
    simpa [hx, hy] using this
  · intro h i hi
    have hl : i < l.length - 1 := by simpa using hi
    have h1 : i < l.length := by omega
    have h2 : i + 1 < l.length := by omega
    have := List.pairwise_iff_getElem.1 h i (i + 1) h1 h2 (by omega)
    simpa [h1, h2] using this
theorem Srt.tail {x : α} {l : List α} (h : Srt f (x :: l)) : Srt f l := (List.pairwise_cons.1 h).2
theorem Srt.head {x y : α} {l : List α} (h : Srt f (x :: l)) (hy : y ∈ l) : pls (f x) (f y) = true := (List.pairwise_cons.1 h).1 y hy
/-- one path, one element -/
theorem Srt.one {l : List α} (h : Srt f l) : ∀ {x y : α}, x ∈ l → y ∈ l → f x = f y → x = y := by
  induction l with
  | nil => intro x y hx; cases hx
  | cons z l ih =>
    intro x y hx hy e
    rcases List.mem_cons.1 hx with rfl | hx
    · rcases List.mem_cons.1 hy with rfl | hy
      · rfl
      · exact absurd e (pls_ne (h.head hy))
    · rcases List.mem_cons.1 hy with e' | hy
      · exact absurd (by rw [← e', e]) (pls_ne (Srt.head h hx))
      · exact ih h.tail hx hy e
/-- two ascending lists with the same elements are one -/
theorem Srt.ext : ∀ {a b : List α}, Srt f a → Srt f b → (∀ x, x ∈ a ↔ x ∈ b) → a = b
  | [], [], _, _, _ => rfl
  | [], y :: b, _, _, h => absurd ((h y).2 (by simp)) (by simp)
  | x :: a, [], _, _, h => absurd ((h x).1 (by simp)) (by simp)
  | x :: a, y :: b, ha, hb, h => by
    have hx := (h x).1 (by simp)
    have hy := (h y).2 (by simp)
    have e : x = y := by
      rcases List.mem_cons.1 hx with e | hx
      · exact e
      rcases List.mem_cons.1 hy with e | hy
      · exact e.symm
      · have h1 := pls_asymm (Srt.head ha hy); rw [Srt.head hb hx] at h1; cases h1
    subst e
    have : a = b := Srt.ext ha.tail hb.tail fun z => by
      constructor
      · intro hz
        rcases List.mem_cons.1 ((h z).1 (List.mem_cons_of_mem _ hz)) with e | hz'
        · subst e; exact absurd rfl (pls_ne (ha.head hz))
        · exact hz'
      · intro hz
        rcases List.mem_cons.1 ((h z).2 (List.mem_cons_of_mem _ hz)) with e | hz'
        · subst e; exact absurd rfl (pls_ne (hb.head hz))
        · exact hz'
    rw [this]
/-- an element laid ahead of the first whose path is not smaller -/
def ins (f : α → ByteArray) (l : List α) (x : α) : List α := l.takeWhile (fun y => pls (f y) (f x)) ++ x :: l.dropWhile (fun y => pls (f y) (f x))
theorem ins_nil (x : α) : ins f [] x = [x] := rfl
theorem ins_cons (y : α) (l : List α) (x : α) : ins f (y :: l) x = if pls (f y) (f x) then y :: ins f l x else x :: y :: l := by
  unfold ins
  by_cases h : pls (f y) (f x) = true
  · simp [h]
  · have h' : pls (f y) (f x) = false := by simpa using h
    simp [h']
theorem mem_ins {l : List α} {x z : α} : z ∈ ins f l x ↔ z = x ∨ z ∈ l := by
  induction l with
  | nil => simp [ins_nil]
  | cons y l ih =>
    rw [ins_cons]
    split
    · rw [List.mem_cons, ih, List.mem_cons]
      constructor
      · rintro (h | h | h)
        · exact .inr (.inl h)
        · exact .inl h
        · exact .inr (.inr h)
      · rintro (h | h | h)
        · exact .inr (.inl h)
        · exact .inl h
        · exact .inr (.inr h)
    · rw [List.mem_cons]
theorem length_ins (l : List α) (x : α) : (ins f l x).length = l.length + 1 := by
  induction l with
  | nil => rfl
  | cons y l ih => rw [ins_cons]; split <;> simp [ih]
theorem Srt.ins {l : List α} {x : α} (h : Srt f l) (hn : ∀ y ∈ l, f y ≠ f x) : Srt f (ins f l x) := by
  induction l with
  | nil => exact List.pairwise_singleton _ _
  | cons y l ih =>
    rw [ins_cons]
    split
    · rename_i hy
      refine List.Pairwise.cons (fun z hz => ?_) (ih h.tail fun w hw => hn w (List.mem_cons_of_mem _ hw))
      rcases mem_ins.1 hz with e | hz
      · subst e; exact hy
      · exact h.head hz
    · rename_i hy
      have hy' : pls (f y) (f x) = false := by simpa using hy
      have hxy : pls (f x) (f y) = true := by
        by_cases hh : pls (f x) (f y) = true
        · exact hh
        · exact absurd (pls_tri hy' (by simpa using hh)) (hn y (by simp))
      refine List.Pairwise.cons (fun z hz => ?_) h
      rcases List.mem_cons.1 hz with e | hz
      · subst e; exact hxy
      · exact pls_trans hxy (h.head hz)
end

/-! ### two lists of changes side by side -/
def kp (p : ByteArray) (d : List Int) : Cg := ⟨p, d, d⟩
def sbs : List Cg → List Cg → List (Cg × Cg)
  | [], b => b.map fun y => (kp y.p y.o, y)
  | x :: a, [] => (x :: a).map fun x => (x, kp x.p x.n)
  | x :: a, y :: b =>
    if pls x.p y.p then (x, kp x.p x.n) :: sbs a (y :: b)
    else if pls y.p x.p then (kp y.p y.o, y) :: sbs (x :: a) b
    else (x, y) :: sbs a b
termination_by a b => a.length + b.length
theorem sbs_nil (b : List Cg) : sbs [] b = b.map fun y => (kp y.p y.o, y) := by unfold sbs; rfl
theorem sbs_nil_right (a : List Cg) : sbs a [] = a.map fun x => (x, kp x.p x.n) := by
  cases a with
  | nil => unfold sbs; rfl
  | cons x a => unfold sbs; rfl
theorem sbs_lt {x y : Cg} {a b : List Cg} (h : pls x.p y.p = true) : sbs (x :: a) (y :: b) = (x, kp x.p x.n) :: sbs a (y :: b) := by rw [sbs, if_pos h]
theorem sbs_gt {x y : Cg} {a b : List Cg} (h0 : pls x.p y.p = false) (h : pls y.p x.p = true) : sbs (x :: a) (y :: b) = (kp y.p y.o, y) :: sbs (x :: a) b := by rw [sbs, if_neg (by simp [h0]), if_pos h]
theorem sbs_eq {x y : Cg} {a b : List Cg} (h0 : pls x.p y.p = false) (h : pls y.p x.p = false) : sbs (x :: a) (y :: b) = (x, y) :: sbs a b := by rw [sbs, if_neg (by simp [h0]), if_neg (by simp [h])]
def okP (q : Cg × Cg) : Bool := decide (q.1.n = q.2.o)
def outP (q : Cg × Cg) : Option Cg := if q.1.o = q.2.n then none else some ⟨q.1.p, q.1.o, q.2.n⟩
/-- the changes that have the effect of two lists, one behind the other -/
def fol (a b : List Cg) : Option (List Cg) := if (sbs a b).all okP then some ((sbs a b).filterMap outP) else none

/-- the pairs that two lists have side by side -/
def Side (a b : List Cg) (q : Cg × Cg) : Prop := (q.1 ∈ a ∧ q.2 ∈ b ∧ q.1.p = q.2.p) ∨ (q.1 ∈ a ∧ (∀ z ∈ b, z.p ≠ q.1.p) ∧ q.2 = kp q.1.p q.1.n) ∨ (q.2 ∈ b ∧ (∀ z ∈ a, z.p ≠ q.2.p) ∧ q.1 = kp q.2.p q.2.o)
theorem Side.same {a b : List Cg} {q : Cg × Cg} (h : Side a b q) : q.1.p = q.2.p := by
  rcases h with ⟨_, _, h⟩ | ⟨_, _, h⟩ | ⟨_, _, h⟩
  · exact h
  · rw [h]; rfl
  · rw [h]; rfl
theorem mem_sbs : ∀ (a b : List Cg), Srt Cg.p a → Srt Cg.p b → ∀ q, q ∈ sbs a b ↔ Side a b q
  | [], b, _, _, q => by
    rw [sbs_nil, List.mem_map]
    constructor
    · rintro ⟨y, hy, rfl⟩; exact .inr (.inr ⟨hy, by simp, rfl⟩)
    · rintro (⟨h, _⟩ | ⟨h, _⟩ | ⟨h, _, e⟩)
      · cases h
      · cases h
      · exact ⟨q.2, h, by rw [← e]⟩
  | x :: a, [], _, _, q => by
    rw [sbs_nil_right, List.mem_map]
    constructor
    · rintro ⟨y, hy, rfl⟩; exact .inr (.inl ⟨hy, by simp, rfl⟩)
    · rintro (⟨_, h, _⟩ | ⟨h, _, e⟩ | ⟨h, _⟩)
      · cases h
      · exact ⟨q.1, h, by rw [← e]⟩
      · cases h
  | x :: a, y :: b, ha, hb, q => by
    by_cases h1 : pls x.p y.p = true
    · rw [sbs_lt h1, List.mem_cons, mem_sbs a (y :: b) ha.tail hb q]
      have hx : ∀ z ∈ y :: b, z.p ≠ x.p := fun z hz e => by
        rcases List.mem_cons.1 hz with rfl | hz
        · exact pls_ne h1 e.symm
        · exact pls_ne (pls_trans h1 (hb.head hz)) e.symm
      constructor
      · rintro (rfl | ⟨h, k, e⟩ | ⟨h, k, e⟩ | ⟨h, k, e⟩)
        · exact .inr (.inl ⟨by simp, hx, rfl⟩)
        · exact .inl ⟨List.mem_cons_of_mem _ h, k, e⟩
        · exact .inr (.inl ⟨List.mem_cons_of_mem _ h, k, e⟩)
        · refine .inr (.inr ⟨h, fun z hz => ?_, e⟩)
          rcases List.mem_cons.1 hz with rfl | hz
          · exact fun e => hx _ h e.symm
          · exact k z hz
      · rintro (⟨h, k, e⟩ | ⟨h, k, e⟩ | ⟨h, k, e⟩)
        · rcases List.mem_cons.1 h with e' | h
          · exact absurd (by rw [← e, e']) (hx _ k)
          · exact .inr (.inl ⟨h, k, e⟩)
        · rcases List.mem_cons.1 h with e' | h
          · exact .inl (by rw [← e', ← e])
          · exact .inr (.inr (.inl ⟨h, k, e⟩))
        · exact .inr (.inr (.inr ⟨h, fun z hz => k z (List.mem_cons_of_mem _ hz), e⟩))
    · have h1 : pls x.p y.p = false := by simpa using h1
      by_cases h2 : pls y.p x.p = true
      · rw [sbs_gt h1 h2, List.mem_cons, mem_sbs (x :: a) b ha hb.tail q]
        have hx : ∀ z ∈ x :: a, z.p ≠ y.p := fun z hz e => by
          rcases List.mem_cons.1 hz with rfl | hz
          · exact pls_ne h2 e.symm
          · exact pls_ne (pls_trans h2 (ha.head hz)) e.symm
        constructor
        · rintro (rfl | ⟨h, k, e⟩ | ⟨h, k, e⟩ | ⟨h, k, e⟩)
          · exact .inr (.inr ⟨by simp, hx, rfl⟩)
          · exact .inl ⟨h, List.mem_cons_of_mem _ k, e⟩
          · refine .inr (.inl ⟨h, fun z hz => ?_, e⟩)
            rcases List.mem_cons.1 hz with rfl | hz
            · exact fun e => hx _ h e.symm
            · exact k z hz
          · exact .inr (.inr ⟨List.mem_cons_of_mem _ h, k, e⟩)
        · rintro (⟨h, k, e⟩ | ⟨h, k, e⟩ | ⟨h, k, e⟩)
          · rcases List.mem_cons.1 k with e' | k
            · exact absurd (by rw [e, e']) (hx _ h)
            · exact .inr (.inl ⟨h, k, e⟩)
          · exact .inr (.inr (.inl ⟨h, fun z hz => k z (List.mem_cons_of_mem _ hz), e⟩))
          · rcases List.mem_cons.1 h with e' | h
            · exact .inl (by rw [← e', ← e])
            · exact .inr (.inr (.inr ⟨h, k, e⟩))
      · have h2 : pls y.p x.p = false := by simpa using h2
        have hxy := pls_tri h1 h2
        rw [sbs_eq h1 h2, List.mem_cons, mem_sbs a b ha.tail hb.tail q]
        have hxa : ∀ z ∈ a, z.p ≠ x.p := fun z hz e => pls_ne (ha.head hz) e.symm
        have hyb : ∀ z ∈ b, z.p ≠ y.p := fun z hz e => pls_ne (hb.head hz) e.symm
        constructor
        · rintro (rfl | ⟨h, k, e⟩ | ⟨h, k, e⟩ | ⟨h, k, e⟩)
          · exact .inl ⟨by simp, by simp, hxy⟩
          · exact .inl ⟨List.mem_cons_of_mem _ h, List.mem_cons_of_mem _ k, e⟩
          · refine .inr (.inl ⟨List.mem_cons_of_mem _ h, fun z hz => ?_, e⟩)
            rcases List.mem_cons.1 hz with rfl | hz
            · rw [← hxy]; exact fun e => hxa _ h e.symm
            · exact k z hz
          · refine .inr (.inr ⟨List.mem_cons_of_mem _ h, fun z hz => ?_, e⟩)
            rcases List.mem_cons.1 hz with rfl | hz
            · rw [hxy]; exact fun e => hyb _ h e.symm
            · exact k z hz
        · rintro (⟨h, k, e⟩ | ⟨h, k, e⟩ | ⟨h, k, e⟩)
          · rcases List.mem_cons.1 h with e1 | h
            · rcases List.mem_cons.1 k with e2 | k
              · exact .inl (by rw [← e1, ← e2])
              · exact absurd (by rw [← e, e1, hxy]) (hyb _ k)
            · rcases List.mem_cons.1 k with e2 | k
              · exact absurd (by rw [e, e2, hxy]) (hxa _ h)
              · exact .inr (.inl ⟨h, k, e⟩)
          · rcases List.mem_cons.1 h with e1 | h
            · exact absurd (by rw [e1, hxy]) (k y (by simp))
            · exact .inr (.inr (.inl ⟨h, fun z hz => k z (List.mem_cons_of_mem _ hz), e⟩))
          · rcases List.mem_cons.1 h with e1 | h
            · exact absurd (by rw [e1, hxy]) (k x (by simp))
            · exact .inr (.inr (.inr ⟨h, fun z hz => k z (List.mem_cons_of_mem _ hz), e⟩))
termination_by a b => a.length + b.length
theorem srt_sbs : ∀ (a b : List Cg), Srt Cg.p a → Srt Cg.p b → Srt (fun q : Cg × Cg => q.1.p) (sbs a b)
  | [], b, _, hb => by rw [sbs_nil]; exact List.pairwise_map.2 hb
  | x :: a, [], ha, _ => by rw [sbs_nil_right]; exact List.pairwise_map.2 ha
  | x :: a, y :: b, ha, hb => by
    by_cases h1 : pls x.p y.p = true
    · rw [sbs_lt h1]
      refine List.Pairwise.cons (fun q hq => ?_) (srt_sbs a (y :: b) ha.tail hb)
      rcases (mem_sbs a (y :: b) ha.tail hb q).1 hq with ⟨h, _, _⟩ | ⟨h, _, _⟩ | ⟨h, _, e⟩
      · exact ha.head h
      · exact ha.head h
      · show pls x.p q.1.p = true
        rw [e]; show pls x.p q.2.p = true
        rcases List.mem_cons.1 h with e' | h
        · rw [e']; exact h1
        · exact pls_trans h1 (hb.head h)
    · have h1 : pls x.p y.p = false := by simpa using h1
      by_cases h2 : pls y.p x.p = true
      · rw [sbs_gt h1 h2]
        refine List.Pairwise.cons (fun q hq => ?_) (srt_sbs (x :: a) b ha hb.tail)
        have hk : ∀ z ∈ x :: a, pls y.p z.p = true := fun z hz => by
          rcases List.mem_cons.1 hz with rfl | hz
          · exact h2
          · exact pls_trans h2 (ha.head hz)
        rcases (mem_sbs (x :: a) b ha hb.tail q).1 hq with ⟨h, _, _⟩ | ⟨h, _, _⟩ | ⟨h, _, e⟩
        · exact hk _ h
        · exact hk _ h
        · show pls y.p q.1.p = true
          rw [e]; exact (Srt.head hb (y := q.2) h : pls y.p q.2.p = true)
      · have h2 : pls y.p x.p = false := by simpa using h2
        have hxy := pls_tri h1 h2
        rw [sbs_eq h1 h2]
        refine List.Pairwise.cons (fun q hq => ?_) (srt_sbs a b ha.tail hb.tail)
        rcases (mem_sbs a b ha.tail hb.tail q).1 hq with ⟨h, _, _⟩ | ⟨h, _, _⟩ | ⟨h, _, e⟩
        · exact ha.head h
        · exact ha.head h
        · show pls x.p q.1.p = true
          rw [e, hxy]; exact (Srt.head hb (y := q.2) h : pls y.p q.2.p = true)
termination_by a b => a.length + b.length
theorem outP_path {q : Cg × Cg} {z : Cg} (h : outP q = some z) : z.p = q.1.p := by
  unfold outP at h; split at h
  · cases h
  · injection h with h; rw [← h]
theorem srt_fol {a b l : List Cg} (ha : Srt Cg.p a) (hb : Srt Cg.p b) (h : fol a b = some l) : Srt Cg.p l := by
  unfold fol at h; split at h
  · injection h with h; subst h
    refine List.pairwise_filterMap.2 ((srt_sbs a b ha hb).imp ?_)
    intro x y hxy u hu v hv
    rw [outP_path hu, outP_path hv]; exact hxy
  · cases h
/-- what a list finds at a path -/
def fd (l : List Cg) (p : ByteArray) : Option Cg := l.find? fun x => decide (x.p = p)
theorem fd_some {l : List Cg} {p : ByteArray} {x : Cg} (h : fd l p = some x) : x ∈ l ∧ x.p = p := ⟨List.mem_of_find?_eq_some h, by simpa using List.find?_some h⟩
theorem fd_none {l : List Cg} {p : ByteArray} (h : fd l p = none) : ∀ x ∈ l, x.p ≠ p := fun x hx e => by
  have := List.find?_eq_none.1 h x hx; simp [e] at this
theorem fd_of {l : List Cg} (hl : Srt Cg.p l) {x : Cg} (hx : x ∈ l) : fd l x.p = some x := by
  cases h : fd l x.p with
  | none => exact absurd rfl (fd_none h x hx)
  | some y => rw [hl.one (fd_some h).1 hx (fd_some h).2]
theorem fd_not {l : List Cg} {p : ByteArray} (h : ∀ x ∈ l, x.p ≠ p) : fd l p = none := by
  cases e : fd l p with
  | none => rfl
  | some y => exact absurd (fd_some e).2 (h y (fd_some e).1)

/-! ### the reference's composition -/
def rc1 (b : List Cg) (out : List Cg) (x : Cg) : Option (List Cg) := match fd b x.p with
  | none => some (ins Cg.p out x)
  | some y => if x.n = y.o then (if x.o = y.n then some out else some (ins Cg.p out ⟨y.p, x.o, y.n⟩)) else none
def rc2 (a : List Cg) (out : List Cg) (y : Cg) : List Cg := match fd a y.p with
  | none => ins Cg.p out y
  | some _ => out
def rcomp (a b : List Cg) : Option (List Cg) := (a.foldlM (rc1 b) []).map fun l => b.foldl (rc2 a) l
end Go.Proofs.YtkookkhlgllneaaDoor

namespace Go.Proofs.YtkookkhlgllneaaDoor
open Go

section
variable {α β : Type} {f : α → ByteArray} {g : β → ByteArray}
/-- one element more, if it makes one -/
def insF (g : β → ByteArray) (h : α → Option β) (out : List β) (x : α) : List β := match h x with
  | none => out
  | some z => ins g out z
theorem insF_none {h : α → Option β} {out : List β} {x : α} (e : h x = none) : insF g h out x = out := by unfold insF; rw [e]
theorem insF_some {h : α → Option β} {out : List β} {x : α} {z : β} (e : h x = some z) : insF g h out x = ins g out z := by unfold insF; rw [e]
theorem fold_insF (h : α → Option β) (hp : ∀ x z, h x = some z → g z = f x) : ∀ (l : List α) (out : List β), Srt f l → Srt g out → (∀ z ∈ out, ∀ x ∈ l, h x ≠ none → g z ≠ f x) →
    Srt g (l.foldl (insF g h) out) ∧ ∀ z, z ∈ l.foldl (insF g h) out ↔ z ∈ out ∨ ∃ x ∈ l, h x = some z
  | [], out, _, ho, _ => ⟨ho, fun z => by simp⟩
  | x :: l, out, hl, ho, hd => by
    rw [List.foldl_cons]
    cases e : h x with
    | none =>
      rw [insF_none e]
      obtain ⟨h1, h2⟩ := fold_insF h hp l out hl.tail ho fun z hz y hy => hd z hz y (List.mem_cons_of_mem _ hy)
      refine ⟨h1, fun z => (h2 z).trans ?_⟩
      constructor
      · rintro (h | ⟨y, hy, e'⟩)
        · exact .inl h
        · exact .inr ⟨y, List.mem_cons_of_mem _ hy, e'⟩
      · rintro (h | ⟨y, hy, e'⟩)
        · exact .inl h
        · rcases List.mem_cons.1 hy with rfl | hy
          · rw [e] at e'; cases e'
          · exact .inr ⟨y, hy, e'⟩
    | some u =>
      rw [insF_some e]
      have hu := hp x u e
      obtain ⟨h1, h2⟩ := fold_insF h hp l (ins g out u) hl.tail (ho.ins fun z hz => by rw [hu]; exact hd z hz x (by simp) (by rw [e]; simp)) fun z hz y hy hn => by
        rcases mem_ins.1 hz with rfl | hz
        · rw [hu]; exact pls_ne (hl.head hy)
        · exact hd z hz y (List.mem_cons_of_mem _ hy) hn
      refine ⟨h1, fun z => (h2 z).trans ?_⟩
      rw [mem_ins]
      constructor
      · rintro ((h | h) | ⟨y, hy, e'⟩)
        · exact .inr ⟨x, by simp, by rw [e, h]⟩
        · exact .inl h
        · exact .inr ⟨y, List.mem_cons_of_mem _ hy, e'⟩
      · rintro (h | ⟨y, hy, e'⟩)
        · exact .inl (.inr h)
        · rcases List.mem_cons.1 hy with rfl | hy
          · rw [e] at e'; injection e' with e'; exact .inl (.inl e'.symm)
          · exact .inr ⟨y, hy, e'⟩
end

/-! ### composing -/
def gC (b : List Cg) (x : Cg) : Option Cg := match fd b x.p with
  | none => some x
  | some y => if x.o = y.n then none else some ⟨y.p, x.o, y.n⟩
def okC (b : List Cg) (x : Cg) : Bool := match fd b x.p with
  | none => true
  | some y => decide (x.n = y.o)
theorem rc1_ok {b out : List Cg} {x : Cg} (h : okC b x = true) : rc1 b out x = some (insF Cg.p (gC b) out x) := by
  unfold rc1 insF gC
  unfold okC at h
  cases e : fd b x.p with
  | none => rfl
  | some y =>
    rw [e] at h
    have h' : x.n = y.o := by simpa using h
    show (if x.n = y.o then _ else _) = _
    rw [if_pos h']
    by_cases hh : x.o = y.n
    · simp [hh]
    · simp [hh]
theorem rc1_no {b out : List Cg} {x : Cg} (h : okC b x = false) : rc1 b out x = none := by
  unfold rc1
  unfold okC at h
  cases e : fd b x.p with
  | none => rw [e] at h; cases h
  | some y =>
    rw [e] at h
    have h' : ¬ x.n = y.o := by simpa using h
    show (if x.n = y.o then _ else _) = _
    rw [if_neg h']
theorem fold_rc1 (b : List Cg) : ∀ (a out : List Cg), a.foldlM (rc1 b) out = if a.all (okC b) then some (a.foldl (insF Cg.p (gC b)) out) else none
  | [], out => rfl
  | x :: a, out => by
    rw [List.foldlM_cons]
    by_cases h : okC b x = true
    · rw [rc1_ok h]
      show a.foldlM (rc1 b) _ = _
      rw [fold_rc1 b a, List.all_cons, h]; rfl
    · have h' : okC b x = false := by simpa using h
      rw [rc1_no h', List.all_cons, h']; rfl
def hC (a : List Cg) (y : Cg) : Option Cg := match fd a y.p with
  | none => some y
  | some _ => none
theorem rc2_eq (a out : List Cg) (y : Cg) : rc2 a out y = insF Cg.p (hC a) out y := by
  unfold rc2 insF hC
  cases fd a y.p <;> rfl
theorem gC_path {b : List Cg} {x z : Cg} (h : gC b x = some z) : z.p = x.p := by
  unfold gC at h
  cases e : fd b x.p with
  | none => rw [e] at h; injection h with h; rw [h]
  | some y =>
    rw [e] at h
    have h' : (if x.o = y.n then none else some (⟨y.p, x.o, y.n⟩ : Cg)) = some z := h
    split at h'
    · cases h'
    · injection h' with h'; rw [← h']; exact (fd_some e).2
theorem hC_path {a : List Cg} {x z : Cg} (h : hC a x = some z) : z.p = x.p := by
  unfold hC at h
  cases e : fd a x.p with
  | none => rw [e] at h; injection h with h; rw [h]
  | some y => rw [e] at h; cases h
theorem okC_all {a b : List Cg} (ha : Srt Cg.p a) (hb : Srt Cg.p b) : a.all (okC b) = (sbs a b).all okP := by
  rw [Bool.eq_iff_iff, List.all_eq_true, List.all_eq_true]
  constructor
  · intro h q hq
    rcases (mem_sbs a b ha hb q).1 hq with ⟨h1, h2, e⟩ | ⟨_, _, e⟩ | ⟨_, _, e⟩
    · have := h q.1 h1
      unfold okC at this
      rw [e, fd_of hb h2] at this
      exact this
    · unfold okP; rw [e]; simp [kp]
    · unfold okP; rw [e]; simp [kp]
  · intro h x hx
    unfold okC
    cases e : fd b x.p with
    | none => rfl
    | some y => exact h (x, y) ((mem_sbs a b ha hb _).2 (.inl ⟨hx, (fd_some e).1, (fd_some e).2.symm⟩))
theorem rcomp_eq {a b : List Cg} (ha : Srt Cg.p a) (hb : Srt Cg.p b) (hva : ∀ x ∈ a, x.o ≠ x.n) (hvb : ∀ x ∈ b, x.o ≠ x.n) : rcomp a b = fol a b := by
  unfold rcomp fol
  rw [fold_rc1, okC_all ha hb]
  by_cases hok : (sbs a b).all okP = true
  · rw [if_pos hok, if_pos hok]
    show some _ = some _
    congr 1
    have e2 : (fun l y => rc2 a l y) = insF Cg.p (hC a) := by funext l y; exact rc2_eq a l y
    show List.foldl (fun l y => rc2 a l y) _ b = _
    rw [e2]
    obtain ⟨s1, m1⟩ := fold_insF (f := Cg.p) (g := Cg.p) (gC b) (fun _ _ h => gC_path h) a [] ha List.Pairwise.nil (by simp)
    obtain ⟨s2, m2⟩ := fold_insF (f := Cg.p) (g := Cg.p) (hC a) (fun _ _ h => hC_path h) b _ hb s1 (fun z hz y hy hn => by
      rcases (m1 z).1 hz with h | ⟨x, hx, e⟩
      · cases h
      · rw [gC_path e]
        intro e'
        apply hn
        unfold hC
        rw [← e', fd_of ha hx])
    refine Srt.ext s2 (srt_fol ha hb (by unfold fol; rw [if_pos hok])) fun z => ?_
    rw [m2, m1, List.mem_filterMap]
    constructor
    · rintro ((h | ⟨x, hx, e⟩) | ⟨y, hy, e⟩)
      · cases h
      · unfold gC at e
        cases h : fd b x.p with
        | none =>
          rw [h] at e; injection e with e; subst e
          refine ⟨(x, kp x.p x.n), (mem_sbs a b ha hb _).2 (.inr (.inl ⟨hx, fd_none h, rfl⟩)), ?_⟩
          unfold outP; exact if_neg (hva x hx)
        | some y =>
          rw [h] at e
          refine ⟨(x, y), (mem_sbs a b ha hb _).2 (.inl ⟨hx, (fd_some h).1, (fd_some h).2.symm⟩), ?_⟩
          rw [← e]; unfold outP; show (if x.o = y.n then none else some (⟨x.p, x.o, y.n⟩ : Cg)) = if x.o = y.n then none else some ⟨y.p, x.o, y.n⟩
          rw [(fd_some h).2]
      · unfold hC at e
        cases h : fd a y.p with
        | none =>
          rw [h] at e; injection e with e; subst e
          refine ⟨(kp y.p y.o, y), (mem_sbs a b ha hb _).2 (.inr (.inr ⟨hy, fd_none h, rfl⟩)), ?_⟩
          unfold outP; exact if_neg (hvb y hy)
        | some x => rw [h] at e; cases e
    · rintro ⟨q, hq, e⟩
      rcases (mem_sbs a b ha hb q).1 hq with ⟨h1, h2, hp⟩ | ⟨h1, h2, hk⟩ | ⟨h1, h2, hk⟩
      · refine .inl (.inr ⟨q.1, h1, ?_⟩)
        unfold gC; rw [hp, fd_of hb h2]
        rw [← e]; unfold outP
        show (if q.1.o = q.2.n then none else some (⟨q.2.p, q.1.o, q.2.n⟩ : Cg)) = _
        rw [hp]
      · refine .inl (.inr ⟨q.1, h1, ?_⟩)
        unfold gC; rw [fd_not h2]
        rw [← e]; unfold outP; rw [hk]
        exact (if_neg (hva _ h1)).symm
      · refine .inr ⟨q.2, h1, ?_⟩
        unfold hC; rw [fd_not h2]
        rw [← e]; unfold outP; rw [hk]
        exact (if_neg (hvb _ h1)).symm
  · rw [if_neg hok, if_neg hok]; rfl

/-! ### applying -/
def cre (s : List En) : List Cg := s.map fun x => ⟨x.p, zed, x.d⟩
def inv (l : List Cg) : List Cg := l.map fun x => ⟨x.p, x.n, x.o⟩
theorem srt_cre {s : List En} (h : Srt En.p s) : Srt Cg.p (cre s) := List.pairwise_map.2 h
theorem srt_inv {s : List Cg} (h : Srt Cg.p s) : Srt Cg.p (inv s) := List.pairwise_map.2 h
/-- the digest of a path, zero if there is none -/
def fe (s : List En) (p : ByteArray) : Option En := s.find? fun x => decide (x.p = p)
theorem fe_some {l : List En} {p : ByteArray} {x : En} (h : fe l p = some x) : x ∈ l ∧ x.p = p := ⟨List.mem_of_find?_eq_some h, by simpa using List.find?_some h⟩
theorem fe_none {l : List En} {p : ByteArray} (h : fe l p = none) : ∀ x ∈ l, x.p ≠ p := fun x hx e => by
  have := List.find?_eq_none.1 h x hx; simp [e] at this
theorem fe_of {l : List En} (hl : Srt En.p l) {x : En} (hx : x ∈ l) : fe l x.p = some x := by
  cases h : fe l x.p with
  | none => exact absurd rfl (fe_none h x hx)
  | some y => rw [hl.one (fe_some h).1 hx (fe_some h).2]
theorem fe_not {l : List En} {p : ByteArray} (h : ∀ x ∈ l, x.p ≠ p) : fe l p = none := by
  cases e : fe l p with
  | none => rfl
  | some y => exact absurd (fe_some e).2 (h y (fe_some e).1)
def dg? (s : List En) (p : ByteArray) : List Int := match fe s p with
  | none => zed
  | some x => x.d
def needB (x : Cg) : Bool := decide (x.o ≠ zed)
def toE (x : Cg) : En := ⟨x.p, x.n⟩
/-- the snapshot after changes, as the code makes it -/
def capp (s : List En) (l : List Cg) : Option (List En) := match fol (cre s) l with
  | none => none
  | some m => if m.any needB then none else some (m.map toE)
def hA (x : Cg) : Option En := if x.n = zed then none else some ⟨x.p, x.n⟩
def keepA (l : List Cg) (x : En) : Bool := (fd l x.p).isNone
/-- .. as the reference makes it -/
def rapp (s : List En) (l : List Cg) : Option (List En) := if l.all (fun x => decide (dg? s x.p = x.o)) then some (l.foldl (insF En.p hA) (s.filter (keepA l))) else none
theorem hA_path {x : Cg} {z : En} (h : hA x = some z) : z.p = x.p := by
  unfold hA at h; split at h
  · cases h
  · injection h with h; rw [← h]
theorem mem_cre {s : List En} {x : Cg} : x ∈ cre s ↔ ∃ y ∈ s, x = ⟨y.p, zed, y.d⟩ := by
  unfold cre; rw [List.mem_map]
  constructor
  · rintro ⟨y, hy, e⟩; exact ⟨y, hy, e.symm⟩
  · rintro ⟨y, hy, e⟩; exact ⟨y, hy, e.symm⟩
theorem capp_eq {s : List En} {l : List Cg} (hs : Srt En.p s) (hl : Srt Cg.p l) (hvs : ∀ x ∈ s, x.d ≠ zed) (hvl : ∀ x ∈ l, x.o ≠ x.n) : capp s l = rapp s l := by
  have hc := srt_cre hs
  have hside := mem_sbs (cre s) l hc hl
  unfold capp rapp
  by_cases hok : l.all (fun x => decide (dg? s x.p = x.o)) = true
  · rw [if_pos hok]
    have hok' : ∀ x ∈ l, dg? s x.p = x.o := fun x hx => by simpa using List.all_eq_true.1 hok x hx
    have hall : (sbs (cre s) l).all okP = true := by
      rw [List.all_eq_true]; intro q hq
      rcases (hside q).1 hq with ⟨h1, h2, e⟩ | ⟨_, _, e⟩ | ⟨_, _, e⟩
      · obtain ⟨y, hy, ey⟩ := mem_cre.1 h1
        have := hok' _ h2
        rw [← e, ey] at this
        unfold dg? at this; rw [show (⟨y.p, zed, y.d⟩ : Cg).p = y.p from rfl, fe_of hs hy] at this
        unfold okP; rw [ey]; simpa using this
      · unfold okP; rw [e]; simp [kp]
      · unfold okP; rw [e]; simp [kp]
    have hfol : fol (cre s) l = some ((sbs (cre s) l).filterMap outP) := by unfold fol; rw [if_pos hall]
    rw [hfol]
    have hneed : ((sbs (cre s) l).filterMap outP).any needB = false := by
      rw [List.any_eq_false]; intro z hz
      obtain ⟨q, hq, e⟩ := List.mem_filterMap.1 hz
      have hz0 : z.o = q.1.o := by unfold outP at e; split at e; · cases e
                                   · injection e with e; rw [← e]
      unfold needB; rw [hz0]
      rcases (hside q).1 hq with ⟨h1, _, _⟩ | ⟨h1, _, _⟩ | ⟨h1, h2, e'⟩
      · obtain ⟨y, _, ey⟩ := mem_cre.1 h1; rw [ey]; simp
      · obtain ⟨y, _, ey⟩ := mem_cre.1 h1; rw [ey]; simp
      · have := hok' _ h1
        unfold dg? at this
        rw [fe_not (fun x hx => h2 ⟨x.p, zed, x.d⟩ (mem_cre.2 ⟨x, hx, rfl⟩))] at this
        rw [e']; simp [kp, ← this]
    show (if _ then none else some _) = some _
    rw [if_neg (by rw [hneed]; simp)]
    congr 1
    have hsf : Srt En.p (s.filter (keepA l)) := hs.sublist List.filter_sublist
    obtain ⟨s1, m1⟩ := fold_insF (f := Cg.p) (g := En.p) hA (fun _ _ h => hA_path h) l (s.filter (keepA l)) hl hsf (fun z hz x hx _ e => by
      have := (List.mem_filter.1 hz).2
      unfold keepA at this
      rw [e, fd_of hl hx] at this; cases this)
    refine Srt.ext (f := En.p) (List.pairwise_map.2 (show Srt Cg.p _ from srt_fol hc hl hfol)) s1 fun z => ?_
    rw [m1, List.mem_map]
    constructor
    · rintro ⟨u, hu, rfl⟩
      obtain ⟨q, hq, e⟩ := List.mem_filterMap.1 hu
      unfold outP at e
      split at e
      · cases e
      rename_i hne
      injection e with e
      rcases (hside q).1 hq with ⟨h1, h2, hp⟩ | ⟨h1, h2, hk⟩ | ⟨h1, h2, hk⟩
      · obtain ⟨y, hy, ey⟩ := mem_cre.1 h1
        refine .inr ⟨q.2, h2, ?_⟩
        unfold hA
        rw [ey] at hne hp
        rw [if_neg (fun e => hne e.symm), ← e, ey]
        show some _ = some (⟨y.p, q.2.n⟩ : En)
        rw [← hp]
      · obtain ⟨y, hy, ey⟩ := mem_cre.1 h1
        refine .inl (List.mem_filter.2 ?_)
        rw [← e, hk, ey]
        refine ⟨hy, ?_⟩
        unfold keepA; rw [ey] at h2; show (fd l y.p).isNone = true
        rw [fd_not h2]; rfl
      · refine .inr ⟨q.2, h1, ?_⟩
        have := hok' _ h1
        unfold dg? at this
        rw [fe_not (fun x hx => h2 ⟨x.p, zed, x.d⟩ (mem_cre.2 ⟨x, hx, rfl⟩))] at this
        unfold hA
        rw [hk] at hne
        have hz : q.2.o = zed := this.symm
        rw [if_neg (fun e => hne (by show q.2.o = q.2.n; rw [hz, e])), ← e, hk]; rfl
    · rintro (h | ⟨x, hx, e⟩)
      · obtain ⟨h1, h2⟩ := List.mem_filter.1 h
        have hn : fd l z.p = none := by unfold keepA at h2; simpa using h2
        refine ⟨⟨z.p, zed, z.d⟩, List.mem_filterMap.2 ⟨(⟨z.p, zed, z.d⟩, kp z.p z.d), (hside _).2 (.inr (.inl ⟨mem_cre.2 ⟨z, h1, rfl⟩, fd_none hn, rfl⟩)), ?_⟩, rfl⟩
        unfold outP; exact if_neg (fun e => hvs z h1 e.symm)
      · unfold hA at e
        split at e
        · cases e
        rename_i hnz
        injection e with e
        subst e
        have hx0 := hok' x hx
        unfold dg? at hx0
        cases hf : fe s x.p with
        | none =>
          rw [hf] at hx0
          refine ⟨x, List.mem_filterMap.2 ⟨(kp x.p x.o, x), (hside _).2 (.inr (.inr ⟨hx, fun w hw => ?_, rfl⟩)), ?_⟩, rfl⟩
          · obtain ⟨y, hy, ey⟩ := mem_cre.1 hw; rw [ey]; exact fe_none hf y hy
          · unfold outP; exact if_neg (hvl x hx)
        | some y =>
          refine ⟨⟨x.p, zed, x.n⟩, List.mem_filterMap.2 ⟨(⟨y.p, zed, y.d⟩, x), (hside _).2 (.inl ⟨mem_cre.2 ⟨y, (fe_some hf).1, rfl⟩, hx, (fe_some hf).2⟩), ?_⟩, rfl⟩
          unfold outP
          show (if zed = x.n then none else some (⟨y.p, zed, x.n⟩ : Cg)) = _
          rw [if_neg (fun e => hnz e.symm), (fe_some hf).2]
  · rw [if_neg hok]
    have hok2 : ∃ x ∈ l, dg? s x.p ≠ x.o := by
      have : l.all (fun x => decide (dg? s x.p = x.o)) = false := by simpa using hok
      rw [List.all_eq_false] at this
      obtain ⟨x, hx, h⟩ := this; exact ⟨x, hx, by simpa using h⟩
    obtain ⟨x, hx, hne⟩ := hok2
    cases hf : fe s x.p with
    | some y =>
      have h0 : fol (cre s) l = none := by
        unfold fol; rw [if_neg]
        intro h
        have := List.all_eq_true.1 h _ ((hside (⟨y.p, zed, y.d⟩, x)).2 (.inl ⟨mem_cre.2 ⟨y, (fe_some hf).1, rfl⟩, hx, (fe_some hf).2⟩))
        unfold dg? at hne; rw [hf] at hne
        exact hne (by simpa [okP] using this)
      rw [h0]
    | none =>
      unfold dg? at hne; rw [hf] at hne
      cases h0 : fol (cre s) l with
      | none => rfl
      | some m =>
        show (if _ then none else some _) = none
        rw [if_pos]
        rw [List.any_eq_true]
        refine ⟨x, ?_, by unfold needB; simpa using fun e : x.o = zed => hne e.symm⟩
        unfold fol at h0
        split at h0
        · injection h0 with h0
          rw [← h0, List.mem_filterMap]
          refine ⟨(kp x.p x.o, x), (hside _).2 (.inr (.inr ⟨hx, fun w hw => ?_, rfl⟩)), ?_⟩
          · obtain ⟨y, hy, ey⟩ := mem_cre.1 hw; rw [ey]; exact fe_none hf y hy
          · unfold outP; exact if_neg (hvl x hx)
        · cases h0

/-! ### comparing -/
def cdif (a b : List En) : List Cg := (sbs (inv (cre a)) (cre b)).filterMap outP
def hD1 (b : List En) (x : En) : Option Cg := if dg? b x.p = x.d then none else some ⟨x.p, x.d, dg? b x.p⟩
def hD2 (a : List En) (y : En) : Option Cg := match fe a y.p with
  | none => some ⟨y.p, zed, y.d⟩
  | some _ => none
def rdif (a b : List En) : List Cg := b.foldl (insF Cg.p (hD2 a)) (a.foldl (insF Cg.p (hD1 b)) [])
theorem hD1_path {b : List En} {x : En} {z : Cg} (h : hD1 b x = some z) : z.p = x.p := by
  unfold hD1 at h; split at h
  · cases h
  · injection h with h; rw [← h]
theorem hD2_path {a : List En} {x : En} {z : Cg} (h : hD2 a x = some z) : z.p = x.p := by
  unfold hD2 at h
  cases e : fe a x.p with
  | none => rw [e] at h; injection h with h; rw [← h]
  | some y => rw [e] at h; cases h
theorem mem_icre {s : List En} {x : Cg} : x ∈ inv (cre s) ↔ ∃ y ∈ s, x = ⟨y.p, y.d, zed⟩ := by
  unfold inv; rw [List.mem_map]
  constructor
  · rintro ⟨c, hc, e⟩
    obtain ⟨y, hy, ey⟩ := mem_cre.1 hc
    exact ⟨y, hy, by rw [← e, ey]⟩
  · rintro ⟨y, hy, e⟩; exact ⟨⟨y.p, zed, y.d⟩, mem_cre.2 ⟨y, hy, rfl⟩, e.symm⟩
theorem dif_fol (a b : List En) (ha : Srt En.p a) (hb : Srt En.p b) : fol (inv (cre a)) (cre b) = some (cdif a b) := by
  unfold fol cdif
  rw [if_pos]
  rw [List.all_eq_true]
  intro q hq
  rcases (mem_sbs _ _ (srt_inv (srt_cre ha)) (srt_cre hb) q).1 hq with ⟨h1, h2, _⟩ | ⟨_, _, e⟩ | ⟨_, _, e⟩
  · obtain ⟨x, _, ex⟩ := mem_icre.1 h1
    obtain ⟨y, _, ey⟩ := mem_cre.1 h2
    unfold okP; rw [ex, ey]; simp
  · unfold okP; rw [e]; simp [kp]
  · unfold okP; rw [e]; simp [kp]
theorem cdif_eq {a b : List En} (ha : Srt En.p a) (hb : Srt En.p b) (hva : ∀ x ∈ a, x.d ≠ zed) (hvb : ∀ x ∈ b, x.d ≠ zed) : cdif a b = rdif a b := by
  have hc := srt_inv (srt_cre ha)
  have hd := srt_cre hb
  have hside := mem_sbs _ _ hc hd
  obtain ⟨s1, m1⟩ := fold_insF (f := En.p) (g := Cg.p) (hD1 b) (fun _ _ h => hD1_path h) a [] ha List.Pairwise.nil (by simp)
  obtain ⟨s2, m2⟩ := fold_insF (f := En.p) (g := Cg.p) (hD2 a) (fun _ _ h => hD2_path h) b _ hb s1 (fun z hz y hy hn e => by
    rcases (m1 z).1 hz with h | ⟨x, hx, e'⟩
    · cases h
    · apply hn
      unfold hD2
      rw [hD1_path e'] at e
      rw [← e, fe_of ha hx])
  refine Srt.ext (srt_fol hc hd (dif_fol a b ha hb)) s2 fun z => ?_
  unfold rdif
  rw [m2, m1]
  unfold cdif
  rw [List.mem_filterMap]
  constructor
  · rintro ⟨q, hq, e⟩
    unfold outP at e
    split at e
    · cases e
    rename_i hne
    injection e with e
    rcases (hside q).1 hq with ⟨h1, h2, hp⟩ | ⟨h1, h2, hk⟩ | ⟨h1, h2, hk⟩
    · obtain ⟨x, hx, ex⟩ := mem_icre.1 h1
      obtain ⟨y, hy, ey⟩ := mem_cre.1 h2
      refine .inl (.inr ⟨x, hx, ?_⟩)
      rw [ex, ey] at hp hne
      have hpp : x.p = y.p := hp
      unfold hD1 dg?
      rw [hpp, fe_of hb hy]
      rw [if_neg (fun e => hne e.symm), ← e, ex, ey]
      show some (⟨y.p, x.d, y.d⟩ : Cg) = some ⟨x.p, x.d, y.d⟩
      rw [hpp]
    · obtain ⟨x, hx, ex⟩ := mem_icre.1 h1
      refine .inl (.inr ⟨x, hx, ?_⟩)
      unfold hD1 dg?
      rw [fe_not (fun y hy => by have := h2 ⟨y.p, zed, y.d⟩ (mem_cre.2 ⟨y, hy, rfl⟩); rw [ex] at this; exact this)]
      rw [if_neg (fun e => hva x hx e.symm), ← e, hk, ex]; rfl
    · obtain ⟨y, hy, ey⟩ := mem_cre.1 h1
      refine .inr ⟨y, hy, ?_⟩
      unfold hD2
      rw [fe_not (fun x hx => by have := h2 ⟨x.p, x.d, zed⟩ (mem_icre.2 ⟨x, hx, rfl⟩); rw [ey] at this; exact this)]
      rw [← e, hk, ey]; rfl
  · rintro ((h | ⟨x, hx, e⟩) | ⟨y, hy, e⟩)
    · cases h
    · unfold hD1 at e
      split at e
      · cases e
      rename_i hne
      injection e with e
      unfold dg? at e hne
      cases hf : fe b x.p with
      | none =>
        rw [hf] at e hne
        refine ⟨(⟨x.p, x.d, zed⟩, kp x.p zed), (hside _).2 (.inr (.inl ⟨mem_icre.2 ⟨x, hx, rfl⟩, fun w hw => ?_, rfl⟩)), ?_⟩
        · obtain ⟨y, hy, ey⟩ := mem_cre.1 hw; rw [ey]; exact fe_none hf y hy
        · unfold outP; rw [← e]; exact if_neg (hva x hx)
      | some y =>
        rw [hf] at e hne
        refine ⟨(⟨x.p, x.d, zed⟩, ⟨y.p, zed, y.d⟩), (hside _).2 (.inl ⟨mem_icre.2 ⟨x, hx, rfl⟩, mem_cre.2 ⟨y, (fe_some hf).1, rfl⟩, (fe_some hf).2.symm⟩), ?_⟩
        unfold outP; rw [← e]; exact if_neg (fun e => hne e.symm)
    · unfold hD2 at e
      cases hf : fe a y.p with
      | none =>
        rw [hf] at e; injection e with e
        refine ⟨(kp y.p zed, ⟨y.p, zed, y.d⟩), (hside _).2 (.inr (.inr ⟨mem_cre.2 ⟨y, hy, rfl⟩, fun w hw => ?_, rfl⟩)), ?_⟩
        · obtain ⟨x, hx, ex⟩ := mem_icre.1 hw; rw [ex]; exact fe_none hf x hx
        · unfold outP; rw [← e]; exact if_neg (fun e => hvb y hy e.symm)
      | some x => rw [hf] at e; cases e
end Go.Proofs.YtkookkhlgllneaaDoor

namespace Go.Proofs.YtkookkhlgllneaaDoor
open Go.RowKit

/-- 32 bytes -/
def D32 (l : List Int) : Prop := l.length = 32 ∧ ∀ x ∈ l, 0 ≤ x ∧ x < 256
/-- an entry, a change as cells -/
def enL (x : En) : List Value := Value.string x.p :: x.d.map (Value.int .u8)
def cgL (x : Cg) : List Value := Value.string x.p :: (x.o.map (Value.int .u8) ++ x.n.map (Value.int .u8))
def OkE (x : En) : Prop := D32 x.d
def OkC (x : Cg) : Prop := D32 x.o ∧ D32 x.n
theorem D32.zed : D32 zed := ⟨rfl, fun x hx => by rw [List.eq_of_mem_replicate hx]; omega⟩
theorem enL_length {x : En} (h : OkE x) : (enL x).length = 33 := by unfold enL; rw [List.length_cons, List.length_map, h.1]
theorem cgL_length {x : Cg} (h : OkC x) : (cgL x).length = 65 := by unfold cgL; rw [List.length_cons, List.length_append, List.length_map, List.length_map, h.1.1, h.2.1]
theorem enL_one (x : En) : ∀ u ∈ enL x, u.oneCell' = true := fun u hu => by
  rcases List.mem_cons.1 hu with rfl | hu
  · rfl
  · obtain ⟨i, _, rfl⟩ := List.mem_map.1 hu; rfl
theorem cgL_one (x : Cg) : ∀ u ∈ cgL x, u.oneCell' = true := fun u hu => by
  rcases List.mem_cons.1 hu with rfl | hu
  · rfl
  · rcases List.mem_append.1 hu with hu | hu <;> (obtain ⟨i, _, rfl⟩ := List.mem_map.1 hu; rfl)
theorem infoE : (Tryd.prog.info? 70).map (·.size) = some 33 := by kernel_rfl
theorem infoC : (Tryd.prog.info? 81).map (·.size) = some 65 := by kernel_rfl
theorem infoD : (Tryd.prog.info? 28).map (·.size) = some 32 := by kernel_rfl
/-- a digest as an array's value -/
def dgA (d : List Int) : Array Value := (d.map (Value.int .u8)).toArray

theorem getD_mapD (L : List Int) (i : Nat) (h : i < L.length) : (L.map (Value.int .u8))[i]? = some (.int .u8 (L.getD i 0)) := by
  rw [List.getElem?_map, List.getElem?_eq_getElem h, List.getD_eq_getElem?_getD, List.getElem?_eq_getElem h]; rfl
theorem part_byteD (L : List Int) (i : Nat) (h : i < L.length) (w : World) : (part 5 (dgA L) (i * 1)).run Tryd.prog w = .ok (.int .u8 (L.getD i 0)) w := by
  have hu : (underlying 5).run Tryd.prog w = .ok (.int .u8) w := run_underlying Tryd.underlying5 w
  have hg := getD_mapD L i h
  simp [part, isAgg, hu, dgA, hg]
theorem eq_byteD (d : Nat) (a b : Int) (w : World) : (Op.equalIn (d + 1) 5 (.int .u8 a) (.int .u8 b)).run Tryd.prog w = .ok (a == b) w := by
  simp [Op.equalIn, run_underlying Tryd.underlying5]
theorem eq_itemsD (d : Nat) (X Y : List Int) : ∀ (is : List Nat) (w : World), (∀ i ∈ is, i < X.length ∧ i < Y.length) →
    (Op.eqItems (d + 1) 5 1 (dgA X) (dgA Y) is).run Tryd.prog w = .ok (is.all fun i => X.getD i 0 == Y.getD i 0) w
  | [], w, _ => by simp [Op.eqItems]
  | i :: is, w, h => by
    have hi := h i (by simp)
    have ih := eq_itemsD d X Y is w (fun j hj => h j (by simp [hj]))
    simp only [Op.eqItems, Sem.run_bind, part_byteD X i hi.1, part_byteD Y i hi.2, eq_byteD, Result.andThen_ok]
    cases hx : (X.getD i 0 == Y.getD i 0)
    · rw [List.all_cons, hx]; simp
    · rw [List.all_cons, hx]; simpa using ih
theorem all_range_eqD (X Y : List Int) (h : X.length = Y.length) : ((List.range X.length).all fun i => X.getD i 0 == Y.getD i 0) = decide (X = Y) := by
  by_cases e : X = Y
  · subst e; simp
  · simp only [e, decide_false]
    rw [Bool.eq_false_iff]
    intro ha
    refine e (List.ext_getElem h fun i h1 h2 => ?_)
    have := List.all_eq_true.1 ha i (by simpa using h1)
    simpa [List.getD_eq_getElem?_getD, List.getElem?_eq_getElem h1, List.getElem?_eq_getElem h2] using this
theorem eq_digD (dep : Nat) (X Y : List Int) (hX : X.length = 32) (hY : Y.length = 32) (w : World) : (Op.equalIn (dep + 2) 28 (.agg (dgA X)) (.agg (dgA Y))).run Tryd.prog w = .ok (decide (X = Y)) w := by
  have hc : Tryd.prog.cellsOf 5 = 1 := by kernel_rfl
  obtain ⟨i, hi⟩ : ∃ i, Tryd.prog.info? 5 = some i := Option.isSome_iff_exists.1 (by kernel_rfl)
  have h := run_equalIn_array (P := Tryd.prog) w (dep + 1) (dgA X) (dgA Y) Tryd.underlying28 hi
  rw [hc] at h
  have e := eq_itemsD dep X Y (List.range 32) w (fun j hj => by rw [hX, hY]; simpa using hj)
  have r := all_range_eqD X Y (by omega)
  rw [hX] at r
  rw [r] at e
  rw [e] at h
  exact h
/-- two digests compared -/
theorem eqlD (X Y : List Int) (hX : X.length = 32) (hY : Y.length = 32) (w : World) :
    (binOp .eql 28 (.agg (X.map (Value.int .u8)).toArray) (.agg (Y.map (Value.int .u8)).toArray)).run Tryd.prog w = .ok (.bool (decide (X = Y))) w := by
  have h : (Op.equalIn 10000 28 (.agg (X.map (Value.int .u8)).toArray) (.agg (Y.map (Value.int .u8)).toArray)).run Tryd.prog w = .ok (decide (X = Y)) w := eq_digD 9998 X Y hX hY w
  simp only [binOp]
  simp [Op.equal, Op.maxDepth, h]
theorem neqD (X Y : List Int) (hX : X.length = 32) (hY : Y.length = 32) (w : World) :
    (binOp .neq 28 (.agg (X.map (Value.int .u8)).toArray) (.agg (Y.map (Value.int .u8)).toArray)).run Tryd.prog w = .ok (.bool (!decide (X = Y))) w := by
  have h : (Op.equalIn 10000 28 (.agg (X.map (Value.int .u8)).toArray) (.agg (Y.map (Value.int .u8)).toArray)).run Tryd.prog w = .ok (decide (X = Y)) w := eq_digD 9998 X Y hX hY w
  simp only [binOp]
  simp [Op.equal, Op.maxDepth, h]
/-- the zero digest as an array's value -/
def zA : Array Value := (zed.map (Value.int .u8)).toArray
theorem buildD (w : World) : (Instr.build 28 #[]).run Tryd.prog w = .ok (.agg zA) w := by kernel_rfl
theorem eqlZ (X : List Int) (hX : X.length = 32) (w : World) : (binOp .eql 28 (.agg (X.map (Value.int .u8)).toArray) (.agg #[Value.int .u8 0, Value.int .u8 0, Value.int .u8 0, Value.int .u8 0, Value.int .u8 0, Value.int .u8 0, Value.int .u8 0, Value.int .u8 0, Value.int .u8 0, Value.int .u8 0, Value.int .u8 0, Value.int .u8 0, Value.int .u8 0, Value.int .u8 0, Value.int .u8 0, Value.int .u8 0, Value.int .u8 0, Value.int .u8 0, Value.int .u8 0, Value.int .u8 0, Value.int .u8 0, Value.int .u8 0, Value.int .u8 0, Value.int .u8 0, Value.int .u8 0, Value.int .u8 0, Value.int .u8 0, Value.int .u8 0, Value.int .u8 0, Value.int .u8 0, Value.int .u8 0, Value.int .u8 0])).run Tryd.prog w = .ok (.bool (decide (X = zed))) w := eqlD X zed hX rfl w
theorem neqZ (X : List Int) (hX : X.length = 32) (w : World) : (binOp .neq 28 (.agg (X.map (Value.int .u8)).toArray) (.agg #[Value.int .u8 0, Value.int .u8 0, Value.int .u8 0, Value.int .u8 0, Value.int .u8 0, Value.int .u8 0, Value.int .u8 0, Value.int .u8 0, Value.int .u8 0, Value.int .u8 0, Value.int .u8 0, Value.int .u8 0, Value.int .u8 0, Value.int .u8 0, Value.int .u8 0, Value.int .u8 0, Value.int .u8 0, Value.int .u8 0, Value.int .u8 0, Value.int .u8 0, Value.int .u8 0, Value.int .u8 0, Value.int .u8 0, Value.int .u8 0, Value.int .u8 0, Value.int .u8 0, Value.int .u8 0, Value.int .u8 0, Value.int .u8 0, Value.int .u8 0, Value.int .u8 0, Value.int .u8 0])).run Tryd.prog w = .ok (.bool (!decide (X = zed))) w := neqD X zed hX rfl w

/-- what stands in a row, from a place on -/
theorem range_row {w : World} {b t : Nat} {fz : Nat × Nat} {cs pre sub post : List Value} {o : Nat} (h : w.heap[b]? = some (.cells cs.toArray t fz)) (e : cs = pre ++ (sub ++ post)) (ho : o = pre.length) : w.rangeAt b o sub := by
  intro j v hv
  have hj := (List.getElem?_eq_some_iff.1 hv).1
  show w.cell? ⟨b, o + j, none⟩ = some v
  rw [cell_of_row w b (o + j) cs.toArray t fz h, e, ho, List.getElem?_toArray, List.getElem?_append_right (by omega), Nat.add_sub_cancel_left, List.getElem?_append_left hj, hv]
/-- a change in a block of its own -/
def CgB (w : World) (b : Nat) (x : Cg) : Prop := w.heap[b]? = some (.cells (cgL x).toArray 81 (0, 0))
def EnB (w : World) (b : Nat) (x : En) : Prop := w.heap[b]? = some (.cells (enL x).toArray 70 (0, 0))
theorem CgB.p {w : World} {b : Nat} {x : Cg} (h : CgB w b x) : w.cell? ⟨b, 0, none⟩ = some (.string x.p) := by rw [cell_of_row w b 0 _ _ _ h]; rfl
theorem CgB.o {w : World} {b : Nat} {x : Cg} (h : CgB w b x) : w.rangeAt b 1 (x.o.map (Value.int .u8)) := range_row (pre := [.string x.p]) h rfl rfl
theorem CgB.n {w : World} {b : Nat} {x : Cg} (h : CgB w b x) (hx : OkC x) : w.rangeAt b 33 (x.n.map (Value.int .u8)) := range_row (pre := .string x.p :: x.o.map (Value.int .u8)) (post := []) h (by simp [cgL]) (by rw [List.length_cons, List.length_map, hx.1.1])
theorem EnB.p {w : World} {b : Nat} {x : En} (h : EnB w b x) : w.cell? ⟨b, 0, none⟩ = some (.string x.p) := by rw [cell_of_row w b 0 _ _ _ h]; rfl
theorem EnB.d {w : World} {b : Nat} {x : En} (h : EnB w b x) : w.rangeAt b 1 (x.d.map (Value.int .u8)) := range_row (pre := [.string x.p]) (post := []) h (by simp [enL]) rfl
theorem CgB.all {w : World} {b : Nat} {x : Cg} (h : CgB w b x) : w.rangeAt b 0 (cgL x) := range_row (pre := []) (post := []) h (by simp) rfl
theorem EnB.all {w : World} {b : Nat} {x : En} (h : EnB w b x) : w.rangeAt b 0 (enL x) := range_row (pre := []) (post := []) h (by simp) rfl
theorem CgB.new (w : World) (x : Cg) : CgB (w.alloc (.cells (cgL x).toArray 81)) w.heap.size x := heap_alloc_new w _
theorem EnB.new (w : World) (x : En) : EnB (w.alloc (.cells (enL x).toArray 70)) w.heap.size x := heap_alloc_new w _
theorem CgB.below {w w' : World} {B b : Nat} {x : Cg} (h : CgB w b x) (hb : Below B w w') (hlt : b < B) : CgB w' b x := (hb.block b hlt).trans h
theorem EnB.below {w w' : World} {B b : Nat} {x : En} (h : EnB w b x) (hb : Below B w w') (hlt : b < B) : EnB w' b x := (hb.block b hlt).trans h
theorem info_d {d : List Int} (h : D32 d) : (Tryd.prog.info? 28).map (·.size) = some (d.map (Value.int .u8)).length := by rw [List.length_map, h.1]; exact infoD
theorem info_e {x : En} (h : OkE x) : (Tryd.prog.info? 70).map (·.size) = some (enL x).length := by rw [enL_length h]; exact infoE
theorem info_c {x : Cg} (h : OkC x) : (Tryd.prog.info? 81).map (·.size) = some (cgL x).length := by rw [cgL_length h]; exact infoC

theorem setRow_new (w : World) (old cells : Array Value) (t : TypeId) : (w.alloc (.cells old t)).setRow w.heap.size cells = w.alloc (.cells cells t) := by
  unfold World.setRow World.alloc
  congr 1
  apply Array.ext
  · simp
  · intro i h1 h2
    rw [Array.getElem_modify]
    by_cases e : w.heap.size = i
    · subst e; simp
    · have hi : i < w.heap.size := by simp at h2; omega
      simp [e, Array.getElem_push, hi]

/-! ### structs put together -/
theorem fold_put (off : Nat) : ∀ (vs pre old post : List Value) (k : Nat), off + k = pre.length → old.length = vs.length →
    (vs.zipIdx k).foldl (fun cs (x : Value × Nat) => cs.setIfInBounds (off + x.2) x.1) (pre ++ (old ++ post)).toArray = (pre ++ (vs ++ post)).toArray
  | [], pre, old, post, k, _, ho => by
    have : old = [] := List.eq_nil_of_length_eq_zero ho
    subst this; rfl
  | v :: vs, pre, o :: old, post, k, hk, ho => by
    rw [List.zipIdx_cons, List.foldl_cons]
    have h1 : (pre ++ (o :: old ++ post)).toArray.setIfInBounds (off + k) v = ((pre ++ [v]) ++ (old ++ post)).toArray := by
      rw [List.setIfInBounds_toArray, hk, List.cons_append, List.set_append_right _ _ (Nat.le_refl _), Nat.sub_self, List.set_cons_zero, List.append_assoc]; rfl
    show List.foldl _ ((pre ++ (o :: old ++ post)).toArray.setIfInBounds (off + k) v) _ = _
    rw [h1, fold_put off vs (pre ++ [v]) old post (k + 1) (by rw [List.length_append]; show off + (k + 1) = pre.length + 1; omega) (by simpa using ho), List.append_assoc]; rfl
theorem fill_put {place : Nat → Option (Nat × Nat)} {i off sz : Nat} {v : Value} {rest : List (Nat × Value)} (vs pre old post : List Value) (hp : place i = some (off, sz)) (hv : v.cells = vs.toArray) (hl : vs.length = sz) (ho : off = pre.length) (hold : old.length = sz) :
    Instr.fill place (pre ++ (old ++ post)).toArray ((i, v) :: rest) = Instr.fill place (pre ++ (vs ++ post)).toArray rest := by
  rw [Instr.fill, hp]
  show (if v.cells.size ≠ sz || off + v.cells.size > (pre ++ (old ++ post)).toArray.size then none else _) = _
  rw [if_neg (by rw [hv]; simp; omega)]
  congr 1
  rw [hv, ← Array.foldl_toList, Array.toList_zipIdx]
  exact fold_put off vs pre old post 0 (by omega) (by omega)
theorem built_fill {P : Program} {t : TypeId} {fields : Array Field} {z : Value} {places : List (Nat × Nat)} {parts : List (Nat × Value)} (hi : (P.info? t).map (·.zero) = some (some z)) (hu : P.underlying t = some (.struct fields))
    (hp : fields.toList.mapM (fun f => (P.info? f.type).map fun i => (f.offset, i.size)) = some places) : P.built t parts = Instr.fill (places.toArray[·]?) z.cells parts := by
  cases h : P.info? t with
  | none => rw [h] at hi; cases hi
  | some it =>
    rw [h] at hi
    have hz : it.zero = some z := by injection hi
    unfold Program.built
    simp only [h, hu, hz, hp]
/-- the zero values' cells -/
def zC : List Value := [.string ⟨#[]⟩] ++ (List.replicate 32 (.int .u8 0) ++ List.replicate 32 (.int .u8 0))
def zE : List Value := [.string ⟨#[]⟩] ++ List.replicate 32 (.int .u8 0)
theorem zeroC : (Tryd.prog.info? 81).map (·.zero) = some (some (.agg zC.toArray)) := by kernel_rfl
theorem zeroE : (Tryd.prog.info? 70).map (·.zero) = some (some (.agg zE.toArray)) := by kernel_rfl
theorem zed_cells : zed.map (Value.int .u8) = List.replicate 32 (.int .u8 0) := rfl
theorem agg_cells (l : List Value) : (Value.agg l.toArray).cells = l.toArray := rfl
theorem str_cells (s : ByteArray) : (Value.string s).cells = [Value.string s].toArray := rfl
theorem buildC (p : ByteArray) (o n : List Int) (ho : o.length = 32) (hn : n.length = 32) (w : World) :
    (Instr.build 81 #[(0, .string p), (1, .agg (o.map (Value.int .u8)).toArray), (2, .agg (n.map (Value.int .u8)).toArray)]).run Tryd.prog w = .ok (.agg (cgL ⟨p, o, n⟩).toArray) w := by
  refine run_build w _ _ _ ?_
  rw [built_fill zeroC Tryd.underlying81 (places := [(0, 1), (1, 32), (33, 32)]) (by kernel_rfl)]
  show Instr.fill _ ([] ++ ([Value.string ⟨#[]⟩] ++ (List.replicate 32 (Value.int .u8 0) ++ List.replicate 32 (Value.int .u8 0)))).toArray [(0, Value.string p), (1, .agg (o.map (Value.int .u8)).toArray), (2, .agg (n.map (Value.int .u8)).toArray)] = _
  rw [fill_put [Value.string p] [] [Value.string ⟨#[]⟩] (List.replicate 32 (Value.int .u8 0) ++ List.replicate 32 (Value.int .u8 0)) (off := 0) (sz := 1) rfl (str_cells p) rfl rfl rfl, List.nil_append]
  rw [fill_put (o.map (Value.int .u8)) [Value.string p] (List.replicate 32 (Value.int .u8 0)) (List.replicate 32 (Value.int .u8 0)) rfl rfl (by simp [ho]) rfl (by simp)]
  rw [show [Value.string p] ++ (o.map (Value.int .u8) ++ List.replicate 32 (Value.int .u8 0)) = (Value.string p :: o.map (Value.int .u8)) ++ (List.replicate 32 (Value.int .u8 0) ++ []) by simp]
  rw [fill_put (n.map (Value.int .u8)) (Value.string p :: o.map (Value.int .u8)) (List.replicate 32 (Value.int .u8 0)) [] rfl rfl (by simp [hn]) (by simp [ho]) (by simp)]
  simp [Instr.fill, cgL]
/-- .. where Old is left out -/
theorem buildC2 (p : ByteArray) (n : List Int) (hn : n.length = 32) (w : World) :
    (Instr.build 81 #[(0, .string p), (2, .agg (n.map (Value.int .u8)).toArray)]).run Tryd.prog w = .ok (.agg (cgL ⟨p, zed, n⟩).toArray) w := by
  refine run_build w _ _ _ ?_
  rw [built_fill zeroC Tryd.underlying81 (places := [(0, 1), (1, 32), (33, 32)]) (by kernel_rfl)]
  show Instr.fill _ ([] ++ ([Value.string ⟨#[]⟩] ++ (List.replicate 32 (Value.int .u8 0) ++ List.replicate 32 (Value.int .u8 0)))).toArray [(0, Value.string p), (2, .agg (n.map (Value.int .u8)).toArray)] = _
  rw [fill_put [Value.string p] [] [Value.string ⟨#[]⟩] (List.replicate 32 (Value.int .u8 0) ++ List.replicate 32 (Value.int .u8 0)) (off := 0) (sz := 1) rfl (str_cells p) rfl rfl rfl, List.nil_append]
  rw [show [Value.string p] ++ (List.replicate 32 (Value.int .u8 0) ++ List.replicate 32 (Value.int .u8 0)) = (Value.string p :: List.replicate 32 (Value.int .u8 0)) ++ (List.replicate 32 (Value.int .u8 0) ++ []) by simp]
  rw [fill_put (n.map (Value.int .u8)) (Value.string p :: List.replicate 32 (Value.int .u8 0)) (List.replicate 32 (Value.int .u8 0)) [] rfl rfl (by simp [hn]) (by simp) (by simp)]
  simp [Instr.fill, cgL, zed_cells]
theorem buildE (p : ByteArray) (d : List Int) (hd : d.length = 32) (w : World) :
    (Instr.build 70 #[(0, .string p), (1, .agg (d.map (Value.int .u8)).toArray)]).run Tryd.prog w = .ok (.agg (enL ⟨p, d⟩).toArray) w := by
  refine run_build w _ _ _ ?_
  rw [built_fill zeroE Tryd.underlying70 (places := [(0, 1), (1, 32)]) (by kernel_rfl)]
  show Instr.fill _ ([] ++ ([Value.string ⟨#[]⟩] ++ List.replicate 32 (Value.int .u8 0))).toArray [(0, Value.string p), (1, .agg (d.map (Value.int .u8)).toArray)] = _
  rw [fill_put [Value.string p] [] [Value.string ⟨#[]⟩] (List.replicate 32 (Value.int .u8 0)) (off := 0) (sz := 1) rfl (str_cells p) rfl rfl rfl, List.nil_append]
  rw [show [Value.string p] ++ List.replicate 32 (Value.int .u8 0) = [Value.string p] ++ (List.replicate 32 (Value.int .u8 0) ++ []) by simp]
  rw [fill_put (d.map (Value.int .u8)) [Value.string p] (List.replicate 32 (Value.int .u8 0)) [] rfl rfl (by simp [hd]) rfl (by simp)]
  simp [Instr.fill, enL]
/-- a slice of one struct -/
theorem slice_one (w : World) (t e : TypeId) (cs : List Value) (ie : TypeInfo) (z : Value) (hu : Tryd.prog.underlying t = some (.slice e)) (hie : Tryd.prog.info? e = some ie) (hz : ie.zero = some z) (hs : ie.size = cs.length) (h0 : 0 < cs.length) (h1 : cs.length ≤ 1000) :
    (Instr.buildSlice t 1 #[(0, .agg cs.toArray)]).run Tryd.prog w = .ok (.slice (some ⟨w.heap.size, 0, none⟩) 1 1) (w.alloc (.cells cs.toArray e)) := by
  refine run_buildSlice w t e 1 _ _ ie z hu hie hz (by rw [hs]; omega) (by rw [hs]; omega) ?_
  obtain ⟨old, hold⟩ : ∃ old : List Value, old = ((Array.range (1 * ie.size)).map (z.cells[· % z.cells.size]!)).toList := ⟨_, rfl⟩
  have hl : old.length = ie.size := by rw [hold]; simp
  have e1 : (Array.range (1 * ie.size)).map (z.cells[· % z.cells.size]!) = ([] ++ (old ++ [])).toArray := by rw [hold, List.nil_append, List.append_nil]
  rw [e1]
  rw [fill_put cs [] old [] (sz := ie.size) (off := 0 * ie.size) rfl rfl hs.symm (by simp) hl]
  simp [Instr.fill]
theorem sliceC (w : World) (x : Cg) (hx : OkC x) : (Instr.buildSlice 40 1 #[(0, .agg (cgL x).toArray)]).run Tryd.prog w = .ok (.slice (some ⟨w.heap.size, 0, none⟩) 1 1) (w.alloc (.cells (cgL x).toArray 81)) := by
  have h := cgL_length hx
  have hz := zeroC
  have hi := infoC
  cases hie : Tryd.prog.info? 81 with
  | none => rw [hie] at hi; cases hi
  | some ie =>
    rw [hie] at hi hz
    exact slice_one w _ _ _ ie _ Tryd.underlying40 hie (by injection hz) (by rw [h]; injection hi) (by omega) (by omega)
theorem sliceE (w : World) (x : En) (hx : OkE x) : (Instr.buildSlice 22 1 #[(0, .agg (enL x).toArray)]).run Tryd.prog w = .ok (.slice (some ⟨w.heap.size, 0, none⟩) 1 1) (w.alloc (.cells (enL x).toArray 70)) := by
  have h := enL_length hx
  have hz := zeroE
  have hi := infoE
  cases hie : Tryd.prog.info? 70 with
  | none => rw [hie] at hi; cases hi
  | some ie =>
    rw [hie] at hi hz
    exact slice_one w _ _ _ ie _ Tryd.underlying22 hie (by injection hz) (by rw [h]; injection hi) (by omega) (by omega)

set_option maxRecDepth 100000 in
set_option maxHeartbeats 400000 in
theorem idle_any (x : Cg) (w : World) (hx : OkC x) :
    Calls Tryd.prog 105 #[.agg (cgL x).toArray] w fun e w' => e = .returned (.bool (decide (x.o = x.n))) ∧ Below w.heap.size w w' := by
  have HN := Lib.hid (CgB.new w x)
  have HB := Lib.hid ((Below.refl w.heap.size w).alloc (Nat.le_refl _) (.cells (cgL x).toArray 81))
  have HO := Lib.hid (info_d hx.1); have HP := Lib.hid (info_d hx.2)
  have he := eqlD x.o x.n hx.1.1 hx.2.1
  have HX := Lib.hid hx; clear hx
  go_enter Tryd.func105, Tryd.ntmps105
  go_wp2_with (first
    | (generalize hw0 : World.alloc w _ = w0; have hr : CgB w0 w.heap.size x := (by rw [← hw0]; exact HN.out); have hbb : Below w.heap.size w w0 := (by rw [← hw0]; exact HB.out); have HR := Lib.hid hr; have HBB := Lib.hid hbb; clear hw0 hr hbb; refine wpList_load_mid rfl 28 _ rfl w.heap.size 1 rfl _ _ HR.out.o Tryd.underlying28 rfl HO.out ?_)
    | (refine wpList_load_mid rfl 28 _ rfl w.heap.size 33 rfl _ _ (HR.out.n HX.out) Tryd.underlying28 rfl HP.out ?_))
  go_ret
  exact ⟨rfl, HBB.out⟩
set_option maxRecDepth 100000 in
set_option maxHeartbeats 400000 in
theorem needsFile_any (x : Cg) (w : World) (hx : OkC x) :
    Calls Tryd.prog 67 #[.agg (cgL x).toArray] w fun e w' => e = .returned (.bool (needB x)) ∧ Below w.heap.size w w' := by
  have HN := Lib.hid (CgB.new w x)
  have HB := Lib.hid ((Below.refl w.heap.size w).alloc (Nat.le_refl _) (.cells (cgL x).toArray 81))
  have HO := Lib.hid (info_d hx.1)
  have he := neqZ x.o hx.1.1
  have HX := Lib.hid hx; clear hx
  go_enter Tryd.func67, Tryd.ntmps67
  go_wp2_with (first
    | (generalize hw0 : World.alloc w _ = w0; have hr : CgB w0 w.heap.size x := (by rw [← hw0]; exact HN.out); have hbb : Below w.heap.size w w0 := (by rw [← hw0]; exact HB.out); have HR := Lib.hid hr; have HBB := Lib.hid hbb; clear hw0 hr hbb; refine wpList_load_mid rfl 28 _ rfl w.heap.size 1 rfl _ _ HR.out.o Tryd.underlying28 rfl HO.out ?_))
  go_ret
  exact ⟨by unfold needB; simp, HBB.out⟩
set_option maxHeartbeats 400000 in
theorem entryPath_any (x : En) (w : World) :
    Calls Tryd.prog 54 #[.agg (enL x).toArray] w fun e w' => e = .returned (.string x.p) ∧ Below w.heap.size w w' := by
  have hr := (EnB.new w x).p
  have HB := Lib.hid ((Below.refl w.heap.size w).alloc (Nat.le_refl _) (.cells (enL x).toArray 70))
  go_enter Tryd.func54, Tryd.ntmps54
  go_wp2_with fail
  go_ret
  exact ⟨rfl, HB.out⟩
set_option maxHeartbeats 400000 in
theorem changePath_any (x : Cg) (w : World) :
    Calls Tryd.prog 108 #[.agg (cgL x).toArray] w fun e w' => e = .returned (.string x.p) ∧ Below w.heap.size w w' := by
  have hr := (CgB.new w x).p
  have HB := Lib.hid ((Below.refl w.heap.size w).alloc (Nat.le_refl _) (.cells (cgL x).toArray 81))
  go_enter Tryd.func108, Tryd.ntmps108
  go_wp2_with fail
  go_ret
  exact ⟨rfl, HB.out⟩
end Go.Proofs.YtkookkhlgllneaaDoor

namespace Go.Proofs.YtkookkhlgllneaaDoor
open Go.RowKit

def badE (x : En) : Bool := decide (x.d = zed) || !pathB x.p
def badC (x : Cg) : Bool := decide (x.o = x.n) || !pathB x.p

set_option maxRecDepth 100000 in
set_option maxHeartbeats 400000 in
theorem incorrect_any (x : En) (w : World) (hx : OkE x) :
    Calls Tryd.prog 49 #[.agg (enL x).toArray] w fun e w' => e = .returned (.bool (badE x)) ∧ Below w.heap.size w w' := by
  have HN := Lib.hid (EnB.new w x)
  have HB := Lib.hid ((Below.refl w.heap.size w).alloc (Nat.le_refl _) (.cells (enL x).toArray 70))
  have HO := Lib.hid (info_d hx)
  have he := eqlZ x.d hx.1
  clear hx
  by_cases hz : x.d = zed
  · have HZ : Hid (badE x = true) := by show _ = _; unfold badE; rw [decide_eq_true hz]; rfl
    rw [decide_eq_true hz] at he
    clear hz
    go_enter Tryd.func49, Tryd.ntmps49
    go_wp2_with (generalize hw0 : World.alloc w _ = w0; have hr : EnB w0 w.heap.size x := (by rw [← hw0]; exact HN.out); have hbb : Below w.heap.size w w0 := (by rw [← hw0]; exact HB.out); have HR := Lib.hid hr; have HBB := Lib.hid hbb; clear hw0 hr hbb; refine wpList_load_mid rfl 28 _ rfl w.heap.size 1 rfl _ _ HR.out.d Tryd.underlying28 rfl HO.out ?_)
    go_ret
    exact ⟨ret_boolP HZ.out.symm, HBB.out⟩
  · have HZ : Hid (badE x = !pathB x.p) := by show _ = _; unfold badE; rw [decide_eq_false hz]; rfl
    rw [decide_eq_false hz] at he
    clear hz
    go_enter Tryd.func49, Tryd.ntmps49
    go_wp2_with (generalize hw0 : World.alloc w _ = w0; have hr : EnB w0 w.heap.size x := (by rw [← hw0]; exact HN.out); have hbb : Below w.heap.size w w0 := (by rw [← hw0]; exact HB.out); have hp := hr.p; have HR := Lib.hid hr; have HBB := Lib.hid hbb; clear hw0 hr hbb; refine wpList_load_mid rfl 28 _ rfl w.heap.size 1 rfl _ _ HR.out.d Tryd.underlying28 rfl HO.out ?_)
    refine (Path_any x.p _).mono ?_
    rintro e w1 ⟨rfl, hb1⟩
    have HB1 := Lib.hid hb1; clear hb1
    go_wp2
    go_ret
    exact ⟨ret_boolP HZ.out.symm, HBB.out.trans (HB1.out.mono HBB.out.size)⟩
set_option maxRecDepth 100000 in
set_option maxHeartbeats 400000 in
theorem unfit_any (x : Cg) (w : World) (hx : OkC x) :
    Calls Tryd.prog 106 #[.agg (cgL x).toArray] w fun e w' => e = .returned (.bool (badC x)) ∧ Below w.heap.size w w' := by
  have HN := Lib.hid (CgB.new w x)
  have HB := Lib.hid ((Below.refl w.heap.size w).alloc (Nat.le_refl _) (.cells (cgL x).toArray 81))
  have HO := Lib.hid (info_c hx)
  have HX := Lib.hid hx; clear hx
  obtain ⟨b, hb⟩ : ∃ b, decide (x.o = x.n) = b := ⟨_, rfl⟩
  have hid : ∀ w, Calls Tryd.prog 105 #[.agg (cgL x).toArray] w fun e w' => e = .returned (.bool b) ∧ Below w.heap.size w w' := fun w => by rw [← hb]; exact idle_any x w HX.out
  have HID := Lib.hid hid; clear hid
  cases b
  · have HZ : Hid (badC x = !pathB x.p) := by show _ = _; unfold badC; rw [hb]; rfl
    clear hb
    go_enter Tryd.func106, Tryd.ntmps106
    go_wp2_with (generalize hw0 : World.alloc w _ = w0; have hr : CgB w0 w.heap.size x := (by rw [← hw0]; exact HN.out); have hbb : Below w.heap.size w w0 := (by rw [← hw0]; exact HB.out); have hp := hr.p; have HR := Lib.hid hr; have hs : w.heap.size < w0.heap.size := (Array.getElem?_eq_some_iff.1 hr).1; have HBB := Lib.hid hbb; clear hw0 hr hbb; refine wpList_load_row rfl 81 _ rfl w.heap.size rfl _ _ _ _ HR.out Tryd.underlying81 rfl (by simpa using HO.out) ?_)
    refine (HID.out _).mono ?_
    rintro e w1 ⟨rfl, hb1⟩
    have hp1 := (HR.out.below hb1 hs).p
    have HB1 := Lib.hid hb1; clear hb1
    go_wp2_with fail
    refine (Path_any x.p _).mono ?_
    rintro e w2 ⟨rfl, hb2⟩
    have HB2 := Lib.hid hb2; clear hb2
    go_wp2
    go_ret
    exact ⟨ret_boolP HZ.out.symm, (HBB.out.trans (HB1.out.mono HBB.out.size)).trans (HB2.out.mono (Nat.le_trans HBB.out.size HB1.out.size))⟩
  · have HZ : Hid (badC x = true) := by show _ = _; unfold badC; rw [hb]; rfl
    clear hb
    go_enter Tryd.func106, Tryd.ntmps106
    go_wp2_with (generalize hw0 : World.alloc w _ = w0; have hr : CgB w0 w.heap.size x := (by rw [← hw0]; exact HN.out); have hbb : Below w.heap.size w w0 := (by rw [← hw0]; exact HB.out); have HR := Lib.hid hr; have HBB := Lib.hid hbb; clear hw0 hr hbb; refine wpList_load_row rfl 81 _ rfl w.heap.size rfl _ _ _ _ HR.out Tryd.underlying81 rfl (by simpa using HO.out) ?_)
    refine (HID.out _).mono ?_
    rintro e w1 ⟨rfl, hb1⟩
    have HB1 := Lib.hid hb1; clear hb1
    go_wp2
    go_ret
    exact ⟨ret_boolP HZ.out.symm, HBB.out.trans (HB1.out.mono HBB.out.size)⟩

/-- slices of entries, of changes, all below block B -/
structure EnsIn (w : World) (B : Nat) (sp : Option Addr) (n cap : Nat) (l : List En) : Prop where
  len : l.length = n
  ok : ∀ x ∈ l, OkE x
  cells : 0 < n → ∃ b off, sp = some ⟨b, off, none⟩ ∧ b < B ∧ n ≤ cap ∧ ∀ i x, l[i]? = some x → w.rangeAt b (off + i * 33) (enL x)
structure CgsIn (w : World) (B : Nat) (sp : Option Addr) (n cap : Nat) (l : List Cg) : Prop where
  len : l.length = n
  ok : ∀ x ∈ l, OkC x
  cells : 0 < n → ∃ b off, sp = some ⟨b, off, none⟩ ∧ b < B ∧ n ≤ cap ∧ ∀ i x, l[i]? = some x → w.rangeAt b (off + i * 65) (cgL x)
theorem range_belowS {w w' : World} {b o B : Nat} {cs : List Value} (h : w.rangeAt b o cs) (hb : Below B w w') (hlt : b < B) : w'.rangeAt b o cs := fun j v hv => (hb.cell (p := ⟨b, o + j, none⟩) hlt).trans (h j v hv)
theorem EnsIn.below {w w' : World} {B B' : Nat} {sp : Option Addr} {n cap : Nat} {l : List En} (h : EnsIn w B sp n cap l) (hb : Below B' w w') (hB : B ≤ B') : EnsIn w' B' sp n cap l :=
  ⟨h.len, h.ok, fun hn => by
    obtain ⟨b, off, e, hlt, hc, hr⟩ := h.cells hn
    exact ⟨b, off, e, by omega, hc, fun i x hi => range_belowS (hr i x hi) hb (by omega)⟩⟩
theorem CgsIn.below {w w' : World} {B B' : Nat} {sp : Option Addr} {n cap : Nat} {l : List Cg} (h : CgsIn w B sp n cap l) (hb : Below B' w w') (hB : B ≤ B') : CgsIn w' B' sp n cap l :=
  ⟨h.len, h.ok, fun hn => by
    obtain ⟨b, off, e, hlt, hc, hr⟩ := h.cells hn
    exact ⟨b, off, e, by omega, hc, fun i x hi => range_belowS (hr i x hi) hb (by omega)⟩⟩

/-- what IndexFunc answers -/
def IdxResE (w : World) (a : Bool) (e : Ending) (w' : World) : Prop := ∃ r : Int, e = .returned (.int .i64 r) ∧ decide (r ≥ 0) = a ∧ Below w.heap.size w w'
set_option maxRecDepth 100000 in
set_option maxHeartbeats 400000 in
theorem indexE_any (sp : Option Addr) (n cap : Nat) (l : List En) (w : World) (hl : EnsIn w w.heap.size sp n cap l) (hn : n ≤ 1000000) :
    Calls Tryd.prog 99 #[.slice sp n cap, .func (.func 49) #[] #[]] w (IdxResE w (l.any badE)) := by
  have HL := Lib.hid hl
  clear hl
  go_enter Tryd.func99, Tryd.ntmps99
  go_wp2_with fail
  go_loopw [8] (fun i wr => ∃ k : Nat, k ≤ n ∧ i = .int .i64 k ∧ Hid ((l.take k).any badE = false) ∧ Hid (Below w.heap.size w wr)) (fun i _ => n - (intOf i).toNat)
  case atStart => exact ⟨0, Nat.zero_le _, rfl, rfl, Below.refl _ _⟩
  case round =>
    obtain ⟨k, hk, rfl, HA, hbe⟩ := hrel
    by_cases hlt : k < n
    · have hd : decide ((k : Int) < (n : Int)) = true := by simp; omega
      obtain ⟨b, off, rfl, hbB, hcap, hr⟩ := HL.out.cells (by omega)
      have hkl : k < l.length := by rw [HL.out.len]; exact hlt
      obtain ⟨x, hx⟩ : ∃ x, l[k]? = some x := ⟨l[k], List.getElem?_eq_getElem hkl⟩
      have hxm : x ∈ l := List.mem_of_getElem? hx
      have HR := Lib.hid (range_belowS (hr k x hx) hbe.out hbB)
      have HI := Lib.hid (info_e (HL.out.ok x hxm))
      have HT : Hid ((l.take (k + 1)).any badE = ((l.take k).any badE || badE x)) := by show _ = _; rw [List.take_add_one, List.any_append, hx]; simp
      have HM : Hid (badE x = true → l.any badE = true) := fun h => List.any_eq_true.2 ⟨x, hxm, h⟩
      have p1 : (0 : Int) ≤ (k : Int) := by omega
      have p2 : (k : Int) < (n : Int) := by omega
      have hF := fun w' => incorrect_any x w' (HL.out.ok x hxm)
      clear hr hx hxm hkl
      obtain ⟨c, hc⟩ : ∃ c, badE x = c := ⟨_, rfl⟩
      rw [hc] at hF
      have HC := Lib.hid hF; have HQ := Lib.hid hc
      clear hF hc
      cases c
      · go_wp2_with (refine wpList_load_mid rfl 70 _ rfl b (off + k * 33) rfl _ _ HR.out Tryd.underlying70 rfl HI.out ?_)
        refine (HC.out _).mono ?_
        rintro e w1 ⟨rfl, hb1⟩
        have HB1 := Lib.hid (hbe.out.trans (hb1.mono hbe.out.size)); clear hb1
        go_wp2_with fail
        go_roundw
        case rel => exact ⟨k + 1, hlt, by go_num, by show _ = _; rw [HT.out, HA.out, HQ.out]; rfl, HB1.out⟩
        case measure => simp [intOf]; omega
      · go_wp2_with (refine wpList_load_mid rfl 70 _ rfl b (off + k * 33) rfl _ _ HR.out Tryd.underlying70 rfl HI.out ?_)
        refine (HC.out _).mono ?_
        rintro e w1 ⟨rfl, hb1⟩
        have HB1 := Lib.hid (hbe.out.trans (hb1.mono hbe.out.size)); clear hb1
        go_wp2_with fail
        go_ret
        exact ⟨k, rfl, by rw [HM.out HQ.out]; simp, HB1.out⟩
    · obtain rfl : k = n := by omega
      have hd : decide ((k : Int) < (k : Int)) = false := by simp
      have HZ : Hid (l.any badE = false) := by have := HA.out; rw [List.take_of_length_le (by rw [HL.out.len]; exact Nat.le_refl _)] at this; exact this
      go_wp2_with fail
      go_ret
      exact ⟨-1, rfl, by rw [HZ.out]; rfl, hbe.out⟩
set_option maxHeartbeats 400000 in
theorem containsE_any (sp : Option Addr) (n cap : Nat) (l : List En) (w : World) (hl : EnsIn w w.heap.size sp n cap l) (hn : n ≤ 1000000) :
    Calls Tryd.prog 48 #[.slice sp n cap, .func (.func 49) #[] #[]] w fun e w' => e = .returned (.bool (l.any badE)) ∧ Below w.heap.size w w' := by
  have HL := Lib.hid hl
  clear hl
  go_enter Tryd.func48, Tryd.ntmps48
  go_wp2_with fail
  refine (indexE_any sp n cap l _ HL.out hn).mono ?_
  rintro e w1 ⟨r, rfl, hr, hb⟩
  have HR := Lib.hid hr; have HB := Lib.hid hb; clear hr hb
  go_wp2_with fail
  go_ret
  exact ⟨ret_boolP HR.out, HB.out⟩
set_option maxRecDepth 100000 in
set_option maxHeartbeats 400000 in
theorem indexU_any (sp : Option Addr) (n cap : Nat) (l : List Cg) (w : World) (hl : CgsIn w w.heap.size sp n cap l) (hn : n ≤ 1000000) :
    Calls Tryd.prog 109 #[.slice sp n cap, .func (.func 106) #[] #[]] w (IdxResE w (l.any badC)) := by
  have HL := Lib.hid hl
  clear hl
  go_enter Tryd.func109, Tryd.ntmps109
  go_wp2_with fail
  go_loopw [8] (fun i wr => ∃ k : Nat, k ≤ n ∧ i = .int .i64 k ∧ Hid ((l.take k).any badC = false) ∧ Hid (Below w.heap.size w wr)) (fun i _ => n - (intOf i).toNat)
  case atStart => exact ⟨0, Nat.zero_le _, rfl, rfl, Below.refl _ _⟩
  case round =>
    obtain ⟨k, hk, rfl, HA, hbe⟩ := hrel
    by_cases hlt : k < n
    · have hd : decide ((k : Int) < (n : Int)) = true := by simp; omega
      obtain ⟨b, off, rfl, hbB, hcap, hr⟩ := HL.out.cells (by omega)
      have hkl : k < l.length := by rw [HL.out.len]; exact hlt
      obtain ⟨x, hx⟩ : ∃ x, l[k]? = some x := ⟨l[k], List.getElem?_eq_getElem hkl⟩
      have hxm : x ∈ l := List.mem_of_getElem? hx
      have HR := Lib.hid (range_belowS (hr k x hx) hbe.out hbB)
      have HI := Lib.hid (info_c (HL.out.ok x hxm))
      have HT : Hid ((l.take (k + 1)).any badC = ((l.take k).any badC || badC x)) := by show _ = _; rw [List.take_add_one, List.any_append, hx]; simp
      have HM : Hid (badC x = true → l.any badC = true) := fun h => List.any_eq_true.2 ⟨x, hxm, h⟩
      have p1 : (0 : Int) ≤ (k : Int) := by omega
      have p2 : (k : Int) < (n : Int) := by omega
      have hF := fun w' => unfit_any x w' (HL.out.ok x hxm)
      clear hr hx hxm hkl
      obtain ⟨c, hc⟩ : ∃ c, badC x = c := ⟨_, rfl⟩
      rw [hc] at hF
      have HC := Lib.hid hF; have HQ := Lib.hid hc
      clear hF hc
      cases c
      · go_wp2_with (refine wpList_load_mid rfl 81 _ rfl b (off + k * 65) rfl _ _ HR.out Tryd.underlying81 rfl HI.out ?_)
        refine (HC.out _).mono ?_
        rintro e w1 ⟨rfl, hb1⟩
        have HB1 := Lib.hid (hbe.out.trans (hb1.mono hbe.out.size)); clear hb1
        go_wp2_with fail
        go_roundw
        case rel => exact ⟨k + 1, hlt, by go_num, by show _ = _; rw [HT.out, HA.out, HQ.out]; rfl, HB1.out⟩
        case measure => simp [intOf]; omega
      · go_wp2_with (refine wpList_load_mid rfl 81 _ rfl b (off + k * 65) rfl _ _ HR.out Tryd.underlying81 rfl HI.out ?_)
        refine (HC.out _).mono ?_
        rintro e w1 ⟨rfl, hb1⟩
        have HB1 := Lib.hid (hbe.out.trans (hb1.mono hbe.out.size)); clear hb1
        go_wp2_with fail
        go_ret
        exact ⟨k, rfl, by rw [HM.out HQ.out]; simp, HB1.out⟩
    · obtain rfl : k = n := by omega
      have hd : decide ((k : Int) < (k : Int)) = false := by simp
      have HZ : Hid (l.any badC = false) := by have := HA.out; rw [List.take_of_length_le (by rw [HL.out.len]; exact Nat.le_refl _)] at this; exact this
      go_wp2_with fail
      go_ret
      exact ⟨-1, rfl, by rw [HZ.out]; rfl, hbe.out⟩
set_option maxHeartbeats 400000 in
theorem containsU_any (sp : Option Addr) (n cap : Nat) (l : List Cg) (w : World) (hl : CgsIn w w.heap.size sp n cap l) (hn : n ≤ 1000000) :
    Calls Tryd.prog 66 #[.slice sp n cap, .func (.func 106) #[] #[]] w fun e w' => e = .returned (.bool (l.any badC)) ∧ Below w.heap.size w w' := by
  have HL := Lib.hid hl
  clear hl
  go_enter Tryd.func66, Tryd.ntmps66
  go_wp2_with fail
  refine (indexU_any sp n cap l _ HL.out hn).mono ?_
  rintro e w1 ⟨r, rfl, hr, hb⟩
  have HR := Lib.hid hr; have HB := Lib.hid hb; clear hr hb
  go_wp2_with fail
  go_ret
  exact ⟨ret_boolP HR.out, HB.out⟩
set_option maxRecDepth 100000 in
set_option maxHeartbeats 400000 in
theorem indexN_any (sp : Option Addr) (n cap : Nat) (l : List Cg) (w : World) (hl : CgsIn w w.heap.size sp n cap l) (hn : n ≤ 1000000) :
    Calls Tryd.prog 109 #[.slice sp n cap, .func (.func 67) #[] #[]] w (IdxResE w (l.any needB)) := by
  have HL := Lib.hid hl
  clear hl
  go_enter Tryd.func109, Tryd.ntmps109
  go_wp2_with fail
  go_loopw [8] (fun i wr => ∃ k : Nat, k ≤ n ∧ i = .int .i64 k ∧ Hid ((l.take k).any needB = false) ∧ Hid (Below w.heap.size w wr)) (fun i _ => n - (intOf i).toNat)
  case atStart => exact ⟨0, Nat.zero_le _, rfl, rfl, Below.refl _ _⟩
  case round =>
    obtain ⟨k, hk, rfl, HA, hbe⟩ := hrel
    by_cases hlt : k < n
    · have hd : decide ((k : Int) < (n : Int)) = true := by simp; omega
      obtain ⟨b, off, rfl, hbB, hcap, hr⟩ := HL.out.cells (by omega)
      have hkl : k < l.length := by rw [HL.out.len]; exact hlt
      obtain ⟨x, hx⟩ : ∃ x, l[k]? = some x := ⟨l[k], List.getElem?_eq_getElem hkl⟩
      have hxm : x ∈ l := List.mem_of_getElem? hx
      have HR := Lib.hid (range_belowS (hr k x hx) hbe.out hbB)
      have HI := Lib.hid (info_c (HL.out.ok x hxm))
      have HT : Hid ((l.take (k + 1)).any needB = ((l.take k).any needB || needB x)) := by show _ = _; rw [List.take_add_one, List.any_append, hx]; simp
      have HM : Hid (needB x = true → l.any needB = true) := fun h => List.any_eq_true.2 ⟨x, hxm, h⟩
      have p1 : (0 : Int) ≤ (k : Int) := by omega
      have p2 : (k : Int) < (n : Int) := by omega
      have hF := fun w' => needsFile_any x w' (HL.out.ok x hxm)
      clear hr hx hxm hkl
      obtain ⟨c, hc⟩ : ∃ c, needB x = c := ⟨_, rfl⟩
      rw [hc] at hF
      have HC := Lib.hid hF; have HQ := Lib.hid hc
      clear hF hc
      cases c
      · go_wp2_with (refine wpList_load_mid rfl 81 _ rfl b (off + k * 65) rfl _ _ HR.out Tryd.underlying81 rfl HI.out ?_)
        refine (HC.out _).mono ?_
        rintro e w1 ⟨rfl, hb1⟩
        have HB1 := Lib.hid (hbe.out.trans (hb1.mono hbe.out.size)); clear hb1
        go_wp2_with fail
        go_roundw
        case rel => exact ⟨k + 1, hlt, by go_num, by show _ = _; rw [HT.out, HA.out, HQ.out]; rfl, HB1.out⟩
        case measure => simp [intOf]; omega
      · go_wp2_with (refine wpList_load_mid rfl 81 _ rfl b (off + k * 65) rfl _ _ HR.out Tryd.underlying81 rfl HI.out ?_)
        refine (HC.out _).mono ?_
        rintro e w1 ⟨rfl, hb1⟩
        have HB1 := Lib.hid (hbe.out.trans (hb1.mono hbe.out.size)); clear hb1
        go_wp2_with fail
        go_ret
        exact ⟨k, rfl, by rw [HM.out HQ.out]; simp, HB1.out⟩
    · obtain rfl : k = n := by omega
      have hd : decide ((k : Int) < (k : Int)) = false := by simp
      have HZ : Hid (l.any needB = false) := by have := HA.out; rw [List.take_of_length_le (by rw [HL.out.len]; exact Nat.le_refl _)] at this; exact this
      go_wp2_with fail
      go_ret
      exact ⟨-1, rfl, by rw [HZ.out]; rfl, hbe.out⟩
set_option maxHeartbeats 400000 in
theorem containsN_any (sp : Option Addr) (n cap : Nat) (l : List Cg) (w : World) (hl : CgsIn w w.heap.size sp n cap l) (hn : n ≤ 1000000) :
    Calls Tryd.prog 66 #[.slice sp n cap, .func (.func 67) #[] #[]] w fun e w' => e = .returned (.bool (l.any needB)) ∧ Below w.heap.size w w' := by
  have HL := Lib.hid hl
  clear hl
  go_enter Tryd.func66, Tryd.ntmps66
  go_wp2_with fail
  refine (indexN_any sp n cap l _ HL.out hn).mono ?_
  rintro e w1 ⟨r, rfl, hr, hb⟩
  have HR := Lib.hid hr; have HB := Lib.hid hb; clear hr hb
  go_wp2_with fail
  go_ret
  exact ⟨ret_boolP HR.out, HB.out⟩
end Go.Proofs.YtkookkhlgllneaaDoor

namespace Go.Proofs.YtkookkhlgllneaaDoor
open Go.RowKit

set_option maxRecDepth 100000 in
set_option maxHeartbeats 400000 in
theorem ascendE_any (sp : Option Addr) (n cap : Nat) (l : List En) (w : World) (hl : EnsIn w w.heap.size sp n cap l) (hn : n ≤ 1000000) :
    Calls Tryd.prog 53 #[.slice sp n cap, .func (.func 54) #[] #[]] w fun e w' => e = .returned (.bool (ascB En.p l)) ∧ Below w.heap.size w w' := by
  have HL := Lib.hid hl
  clear hl
  go_enter Tryd.func53, Tryd.ntmps53
  go_wp2_with fail
  go_loopw [5] (fun i wr => ∃ k : Nat, k ≤ n ∧ i = .int .i64 ((k : Int) + 1) ∧ Hid (upto En.p l k = true) ∧ Hid (Below w.heap.size w wr)) (fun i _ => n + 1 - (intOf i).toNat)
  case atStart => exact ⟨0, Nat.zero_le _, rfl, rfl, Below.refl _ _⟩
  case round =>
    obtain ⟨k, hk, rfl, HA, hbe⟩ := hrel
    by_cases hlt : k + 1 < n
    · have hd : decide ((k : Int) + 1 < (n : Int)) = true := by simp; omega
      obtain ⟨b, off, rfl, hbB, hcap, hr⟩ := HL.out.cells (by omega)
      have hkl : k + 1 < l.length := by rw [HL.out.len]; exact hlt
      obtain ⟨x, hx⟩ : ∃ x, l[k]? = some x := ⟨l[k], List.getElem?_eq_getElem (by omega)⟩
      obtain ⟨y, hy⟩ : ∃ y, l[k + 1]? = some y := ⟨l[k + 1], List.getElem?_eq_getElem hkl⟩
      have HX := Lib.hid (fun w' (hb : Below w.heap.size w w') => range_belowS (hr k x hx) hb hbB)
      have HY := Lib.hid (fun w' (hb : Below w.heap.size w w') => range_belowS (hr (k + 1) y hy) hb hbB)
      have HIX := Lib.hid (info_e (HL.out.ok x (List.mem_of_getElem? hx)))
      have HIY := Lib.hid (info_e (HL.out.ok y (List.mem_of_getElem? hy)))
      have HT := Lib.hid (upto_succ (f := En.p) hx hy)
      have p1 : (0 : Int) ≤ (k : Int) := by omega
      have p2 : (k : Int) < (n : Int) := by omega
      have p3 : (0 : Int) ≤ (k : Int) + 1 := by omega
      have p4 : (k : Int) + 1 < (n : Int) := by omega
      have q1 : (k : Int) + 1 - 1 = (k : Int) := by omega
      have q2 : ((k : Int) + 1).toNat = k + 1 := by omega
      have q3 : IntKind.i64.wrap ((k : Int) + 1 - 1) = (k : Int) := by rw [q1]; exact IntWalk.i64_in _ (by omega)
      have q4 : IntKind.i64.wrap (k : Int) = (k : Int) := IntWalk.i64_in _ (by omega)
      have q5 : IntKind.i64.wrap ((k : Int) + 1) = (k : Int) + 1 := IntWalk.i64_in _ (by omega)
      clear hr hx hy hkl
      have HALL : Hid (∀ w', Below w.heap.size w w' → w'.rangeAt b (off + k * 33) (enL x) ∧ w'.rangeAt b (off + (k + 1) * 33) (enL y)) := fun w' hb => ⟨HX.out _ hb, HY.out _ hb⟩
      have hbd := hbe.out.drew
      obtain ⟨c, hc⟩ : ∃ c, Op.bytesLess x.p.toList y.p.toList = c := ⟨_, rfl⟩
      have HC : Hid (pls x.p y.p = c) := hc
      go_wp2_with fail
      refine wp_region_held_drew (S := fun w' => w'.rangeAt b (off + k * 33) (enL x) ∧ w'.rangeAt b (off + (k + 1) * 33) (enL y)) (by kernel_rfl) (HALL.out _ hbd) (fun hHeld => ?_)
      refine wpAnyH_take (i := 0) (oi := _) (v := ?v0) rfl (by kernel_rfl) (by kernel_rfl) (by kernel_rfl) (fun _ _ _ h => h) (Or.inl ⟨by rfl, ?hy0⟩) (by assumption) ?rest0
      case hy0 =>
        intro w' hSw
        go_simp
        try with_reducible rfl
      try simp only [Act.put, List.getElem_toArray, List.getElem_cons_zero, List.setIfInBounds_toArray, List.set_cons_zero, List.set_cons_succ]
      refine wpAnyH_take (i := 1) (oi := _) (v := ?v1) rfl (by kernel_rfl) (by kernel_rfl) (by kernel_rfl) (fun _ _ _ h => h) (Or.inl ⟨by rfl, ?hy1⟩) (by assumption) ?rest1
      case hy1 =>
        intro w' hSw
        go_simp
        try with_reducible rfl
      try simp only [Act.put, List.getElem_toArray, List.getElem_cons_succ, List.getElem_cons_zero, List.setIfInBounds_toArray, List.set_cons_zero, List.set_cons_succ]
      refine wpAnyH_take (i := 2) (oi := _) (v := ?v2) rfl (by kernel_rfl) (by kernel_rfl) (by kernel_rfl) (fun _ _ _ h => h) (Or.inl ⟨by rfl, ?hy2⟩) (by assumption) ?rest2
      case hy2 =>
        intro w' hSw
        go_simp
        try with_reducible rfl
      try simp only [Act.put, List.getElem_toArray, List.getElem_cons_succ, List.getElem_cons_zero, List.setIfInBounds_toArray, List.set_cons_zero, List.set_cons_succ]
      refine wpAnyH_take (i := 3) (oi := _) (v := ?v3) rfl (by kernel_rfl) (by kernel_rfl) (by kernel_rfl) (fun _ _ _ h => h) (Or.inl ⟨by rfl, ?hy3⟩) (by assumption) ?rest3
      case hy3 =>
        intro w' hSw
        go_simp
        try with_reducible rfl
      try simp only [Act.put, List.getElem_toArray, List.getElem_cons_succ, List.getElem_cons_zero, List.setIfInBounds_toArray, List.set_cons_zero, List.set_cons_succ]
      refine wpAnyH_take (i := 4) (oi := _) (v := ?v4) rfl (by kernel_rfl) (by kernel_rfl) (by kernel_rfl) (fun _ _ _ h => h) (Or.inl ⟨by rfl, ?hy4⟩) (by assumption) ?rest4
      case hy4 =>
        intro w' hSw
        go_simp
        try with_reducible rfl
      try simp only [Act.put, List.getElem_toArray, List.getElem_cons_succ, List.getElem_cons_zero, List.setIfInBounds_toArray, List.set_cons_zero, List.set_cons_succ]
      refine wpAnyH_take (i := 7) (oi := _) (v := ?v7) rfl (by kernel_rfl) (by kernel_rfl) (by kernel_rfl) (fun _ _ _ h => h) (Or.inl ⟨by rfl, ?hy7⟩) (by assumption) ?rest7
      case hy7 =>
        intro w' hSw
        go_simp
        try with_reducible rfl
      try simp only [Act.put, List.getElem_toArray, List.getElem_cons_succ, List.getElem_cons_zero, List.setIfInBounds_toArray, List.set_cons_zero, List.set_cons_succ]
      refine wpAnyH_take (i := 8) (oi := _) (v := ?v8) rfl (by kernel_rfl) (by kernel_rfl) (by kernel_rfl) (fun _ _ _ h => h) (Or.inl ⟨by rfl, ?hy8⟩) (by assumption) ?rest8
      case hy8 =>
        intro w' hSw
        go_simp
        try with_reducible rfl
      try simp only [Act.put, List.getElem_toArray, List.getElem_cons_succ, List.getElem_cons_zero, List.setIfInBounds_toArray, List.set_cons_zero, List.set_cons_succ]
      refine wpAnyH_take (i := 9) (oi := _) (v := ?v9) rfl (by kernel_rfl) (by kernel_rfl) (by kernel_rfl) (fun _ _ _ h => h) (Or.inl ⟨by rfl, ?hy9⟩) (by assumption) ?rest9
      case hy9 =>
        intro w' hSw
        go_simp
        try with_reducible rfl
      try simp only [Act.put, List.getElem_toArray, List.getElem_cons_succ, List.getElem_cons_zero, List.setIfInBounds_toArray, List.set_cons_zero, List.set_cons_succ]
      refine wpAnyH_take (i := 10) (oi := _) (v := ?v10) rfl (by kernel_rfl) (by kernel_rfl) (by kernel_rfl) (fun _ _ _ h => h) (Or.inl ⟨by rfl, ?hy10⟩) (by assumption) ?rest10
      case hy10 =>
        intro w' hSw
        go_simp
        try with_reducible rfl
      try simp only [Act.put, List.getElem_toArray, List.getElem_cons_succ, List.getElem_cons_zero, List.setIfInBounds_toArray, List.set_cons_zero, List.set_cons_succ]
      refine' wpAnyH_take (i := 5) (oi := _) (v := _) rfl (by kernel_rfl) (by kernel_rfl) (by kernel_rfl) (fun _ _ _ h => h) (yieldsIf_load_mid (by rfl) _ _ rfl _ _ rfl _ _ ?hS5 Tryd.underlying70 rfl HIX.out) (by assumption) ?rest5
      case hS5 =>
        intro w' hSw
        exact hSw.1
      try simp only [Act.put, List.getElem_toArray, List.getElem_cons_succ, List.getElem_cons_zero, List.setIfInBounds_toArray, List.set_cons_zero, List.set_cons_succ]
      refine' wpAnyH_take (i := 11) (oi := _) (v := _) rfl (by kernel_rfl) (by kernel_rfl) (by kernel_rfl) (fun _ _ _ h => h) (yieldsIf_load_mid (by rfl) _ _ rfl _ _ rfl _ _ ?hS11 Tryd.underlying70 rfl HIY.out) (by assumption) ?rest11
      case hS11 =>
        intro w' hSw
        exact hSw.2
      try simp only [Act.put, List.getElem_toArray, List.getElem_cons_succ, List.getElem_cons_zero, List.setIfInBounds_toArray, List.set_cons_zero, List.set_cons_succ]
      refine wpAnyH_ready (rs := [6]) (by kernel_rfl) (by simp) (AllReadyH.cons (o := _) rfl (fun K hK => ?_) AllReadyH.nil)
      go_simp
      with_reducible refine (entryPath_any x _).mono ?_
      rintro e w1 ⟨rfl, hb1⟩
      go_wp2_with fail
      refine hK.out _ _ (HALL.out _ (hbd.trans (hb1.mono hbd.size))) (fun hHeld => ?_)
      clear hK K
      try simp only [Act.put, List.getElem_toArray, List.getElem_cons_succ, List.getElem_cons_zero, List.setIfInBounds_toArray, List.set_cons_zero, List.set_cons_succ]
      refine wpAnyH_ready (rs := [12]) (by kernel_rfl) (by simp) (AllReadyH.cons (o := _) rfl (fun K hK => ?_) AllReadyH.nil)
      go_simp
      with_reducible refine (entryPath_any y _).mono ?_
      rintro e w2 ⟨rfl, hb2⟩
      go_wp2_with fail
      refine hK.out _ _ (HALL.out _ (hbd.trans ((hb1.trans (hb2.mono hb1.size)).mono hbd.size))) (fun hHeld => ?_)
      clear hK K
      try simp only [Act.put, List.getElem_toArray, List.getElem_cons_succ, List.getElem_cons_zero, List.setIfInBounds_toArray, List.set_cons_zero, List.set_cons_succ]
      refine wpAnyH_take (i := 13) (oi := _) (v := ?v13) rfl (by kernel_rfl) (by kernel_rfl) (by kernel_rfl) (fun _ _ _ h => h) (Or.inl ⟨by rfl, ?hy13⟩) (by assumption) ?rest13
      case hy13 =>
        intro w' hSw
        go_simp
        try with_reducible rfl
      try simp only [Act.put, List.getElem_toArray, List.getElem_cons_succ, List.getElem_cons_zero, List.setIfInBounds_toArray, List.set_cons_zero, List.set_cons_succ]
      refine wpAnyH_done (by kernel_rfl) ?_ _
      have HB2 := Lib.hid (hbd.trans ((hb1.trans (hb2.mono hb1.size)).mono hbd.size))
      clear hb1 hb2 hbd hHeld hc
      have HM : Hid (upto En.p l (k + 1) = c) := by show _ = _; rw [HT.out, HA.out, HC.out]; rfl
      cases c
      · have HZ : Hid (ascB En.p l = false) := upto_false HM.out (by rw [HL.out.len]; omega)
        go_wp2_with fail
        go_ret
        exact ⟨ret_boolP HZ.out.symm, HB2.out⟩
      · go_wp2_with fail
        go_roundw
        case rel => exact ⟨k + 1, by omega, by go_num, HM.out, HB2.out⟩
        case measure => simp [intOf]; omega
    · have hd : decide ((k : Int) + 1 < (n : Int)) = false := by simp; omega
      have HZ : Hid (ascB En.p l = true) := by
        show upto En.p l (l.length - 1) = true
        have h1 := HA.out
        unfold upto at h1 ⊢
        rw [List.all_eq_true] at h1 ⊢
        intro i hi
        exact h1 i (by simp at hi ⊢; have := HL.out.len; omega)
      go_wp2_with fail
      go_ret
      exact ⟨ret_boolP HZ.out.symm, hbe.out⟩
set_option maxRecDepth 100000 in
set_option maxHeartbeats 400000 in
theorem ascendC_any (sp : Option Addr) (n cap : Nat) (l : List Cg) (w : World) (hl : CgsIn w w.heap.size sp n cap l) (hn : n ≤ 1000000) :
    Calls Tryd.prog 107 #[.slice sp n cap, .func (.func 108) #[] #[]] w fun e w' => e = .returned (.bool (ascB Cg.p l)) ∧ Below w.heap.size w w' := by
  have HL := Lib.hid hl
  clear hl
  go_enter Tryd.func107, Tryd.ntmps107
  go_wp2_with fail
  go_loopw [5] (fun i wr => ∃ k : Nat, k ≤ n ∧ i = .int .i64 ((k : Int) + 1) ∧ Hid (upto Cg.p l k = true) ∧ Hid (Below w.heap.size w wr)) (fun i _ => n + 1 - (intOf i).toNat)
  case atStart => exact ⟨0, Nat.zero_le _, rfl, rfl, Below.refl _ _⟩
  case round =>
    obtain ⟨k, hk, rfl, HA, hbe⟩ := hrel
    by_cases hlt : k + 1 < n
    · have hd : decide ((k : Int) + 1 < (n : Int)) = true := by simp; omega
      obtain ⟨b, off, rfl, hbB, hcap, hr⟩ := HL.out.cells (by omega)
      have hkl : k + 1 < l.length := by rw [HL.out.len]; exact hlt
      obtain ⟨x, hx⟩ : ∃ x, l[k]? = some x := ⟨l[k], List.getElem?_eq_getElem (by omega)⟩
      obtain ⟨y, hy⟩ : ∃ y, l[k + 1]? = some y := ⟨l[k + 1], List.getElem?_eq_getElem hkl⟩
      have HX := Lib.hid (fun w' (hb : Below w.heap.size w w') => range_belowS (hr k x hx) hb hbB)
      have HY := Lib.hid (fun w' (hb : Below w.heap.size w w') => range_belowS (hr (k + 1) y hy) hb hbB)
      have HIX := Lib.hid (info_c (HL.out.ok x (List.mem_of_getElem? hx)))
      have HIY := Lib.hid (info_c (HL.out.ok y (List.mem_of_getElem? hy)))
      have HT := Lib.hid (upto_succ (f := Cg.p) hx hy)
      have p1 : (0 : Int) ≤ (k : Int) := by omega
      have p2 : (k : Int) < (n : Int) := by omega
      have p3 : (0 : Int) ≤ (k : Int) + 1 := by omega
      have p4 : (k : Int) + 1 < (n : Int) := by omega
      have q1 : (k : Int) + 1 - 1 = (k : Int) := by omega
      have q2 : ((k : Int) + 1).toNat = k + 1 := by omega
      have q3 : IntKind.i64.wrap ((k : Int) + 1 - 1) = (k : Int) := by rw [q1]; exact IntWalk.i64_in _ (by omega)
      have q4 : IntKind.i64.wrap (k : Int) = (k : Int) := IntWalk.i64_in _ (by omega)
      have q5 : IntKind.i64.wrap ((k : Int) + 1) = (k : Int) + 1 := IntWalk.i64_in _ (by omega)
      clear hr hx hy hkl
      have HALL : Hid (∀ w', Below w.heap.size w w' → w'.rangeAt b (off + k * 65) (cgL x) ∧ w'.rangeAt b (off + (k + 1) * 65) (cgL y)) := fun w' hb => ⟨HX.out _ hb, HY.out _ hb⟩
      have hbd := hbe.out.drew
      obtain ⟨c, hc⟩ : ∃ c, Op.bytesLess x.p.toList y.p.toList = c := ⟨_, rfl⟩
      have HC : Hid (pls x.p y.p = c) := hc
      go_wp2_with fail
      refine wp_region_held_drew (S := fun w' => w'.rangeAt b (off + k * 65) (cgL x) ∧ w'.rangeAt b (off + (k + 1) * 65) (cgL y)) (by kernel_rfl) (HALL.out _ hbd) (fun hHeld => ?_)
      refine wpAnyH_take (i := 0) (oi := _) (v := ?v0) rfl (by kernel_rfl) (by kernel_rfl) (by kernel_rfl) (fun _ _ _ h => h) (Or.inl ⟨by rfl, ?hy0⟩) (by assumption) ?rest0
      case hy0 =>
        intro w' hSw
        go_simp
        try with_reducible rfl
      try simp only [Act.put, List.getElem_toArray, List.getElem_cons_zero, List.setIfInBounds_toArray, List.set_cons_zero, List.set_cons_succ]
      refine wpAnyH_take (i := 1) (oi := _) (v := ?v1) rfl (by kernel_rfl) (by kernel_rfl) (by kernel_rfl) (fun _ _ _ h => h) (Or.inl ⟨by rfl, ?hy1⟩) (by assumption) ?rest1
      case hy1 =>
        intro w' hSw
        go_simp
        try with_reducible rfl
      try simp only [Act.put, List.getElem_toArray, List.getElem_cons_succ, List.getElem_cons_zero, List.setIfInBounds_toArray, List.set_cons_zero, List.set_cons_succ]
      refine wpAnyH_take (i := 2) (oi := _) (v := ?v2) rfl (by kernel_rfl) (by kernel_rfl) (by kernel_rfl) (fun _ _ _ h => h) (Or.inl ⟨by rfl, ?hy2⟩) (by assumption) ?rest2
      case hy2 =>
        intro w' hSw
        go_simp
        try with_reducible rfl
      try simp only [Act.put, List.getElem_toArray, List.getElem_cons_succ, List.getElem_cons_zero, List.setIfInBounds_toArray, List.set_cons_zero, List.set_cons_succ]
      refine wpAnyH_take (i := 3) (oi := _) (v := ?v3) rfl (by kernel_rfl) (by kernel_rfl) (by kernel_rfl) (fun _ _ _ h => h) (Or.inl ⟨by rfl, ?hy3⟩) (by assumption) ?rest3
      case hy3 =>
        intro w' hSw
        go_simp
        try with_reducible rfl
      try simp only [Act.put, List.getElem_toArray, List.getElem_cons_succ, List.getElem_cons_zero, List.setIfInBounds_toArray, List.set_cons_zero, List.set_cons_succ]
      refine wpAnyH_take (i := 4) (oi := _) (v := ?v4) rfl (by kernel_rfl) (by kernel_rfl) (by kernel_rfl) (fun _ _ _ h => h) (Or.inl ⟨by rfl, ?hy4⟩) (by assumption) ?rest4
      case hy4 =>
        intro w' hSw
        go_simp
        try with_reducible rfl
      try simp only [Act.put, List.getElem_toArray, List.getElem_cons_succ, List.getElem_cons_zero, List.setIfInBounds_toArray, List.set_cons_zero, List.set_cons_succ]
      refine wpAnyH_take (i := 7) (oi := _) (v := ?v7) rfl (by kernel_rfl) (by kernel_rfl) (by kernel_rfl) (fun _ _ _ h => h) (Or.inl ⟨by rfl, ?hy7⟩) (by assumption) ?rest7
      case hy7 =>
        intro w' hSw
        go_simp
        try with_reducible rfl
      try simp only [Act.put, List.getElem_toArray, List.getElem_cons_succ, List.getElem_cons_zero, List.setIfInBounds_toArray, List.set_cons_zero, List.set_cons_succ]
      refine wpAnyH_take (i := 8) (oi := _) (v := ?v8) rfl (by kernel_rfl) (by kernel_rfl) (by kernel_rfl) (fun _ _ _ h => h) (Or.inl ⟨by rfl, ?hy8⟩) (by assumption) ?rest8
      case hy8 =>
        intro w' hSw
        go_simp
        try with_reducible rfl
      try simp only [Act.put, List.getElem_toArray, List.getElem_cons_succ, List.getElem_cons_zero, List.setIfInBounds_toArray, List.set_cons_zero, List.set_cons_succ]
      refine wpAnyH_take (i := 9) (oi := _) (v := ?v9) rfl (by kernel_rfl) (by kernel_rfl) (by kernel_rfl) (fun _ _ _ h => h) (Or.inl ⟨by rfl, ?hy9⟩) (by assumption) ?rest9
      case hy9 =>
        intro w' hSw
        go_simp
        try with_reducible rfl
      try simp only [Act.put, List.getElem_toArray, List.getElem_cons_succ, List.getElem_cons_zero, List.setIfInBounds_toArray, List.set_cons_zero, List.set_cons_succ]
      refine wpAnyH_take (i := 10) (oi := _) (v := ?v10) rfl (by kernel_rfl) (by kernel_rfl) (by kernel_rfl) (fun _ _ _ h => h) (Or.inl ⟨by rfl, ?hy10⟩) (by assumption) ?rest10
      case hy10 =>
        intro w' hSw
        go_simp
        try with_reducible rfl
      try simp only [Act.put, List.getElem_toArray, List.getElem_cons_succ, List.getElem_cons_zero, List.setIfInBounds_toArray, List.set_cons_zero, List.set_cons_succ]
      refine' wpAnyH_take (i := 5) (oi := _) (v := _) rfl (by kernel_rfl) (by kernel_rfl) (by kernel_rfl) (fun _ _ _ h => h) (yieldsIf_load_mid (by rfl) _ _ rfl _ _ rfl _ _ ?hS5 Tryd.underlying81 rfl HIX.out) (by assumption) ?rest5
      case hS5 =>
        intro w' hSw
        exact hSw.1
      try simp only [Act.put, List.getElem_toArray, List.getElem_cons_succ, List.getElem_cons_zero, List.setIfInBounds_toArray, List.set_cons_zero, List.set_cons_succ]
      refine' wpAnyH_take (i := 11) (oi := _) (v := _) rfl (by kernel_rfl) (by kernel_rfl) (by kernel_rfl) (fun _ _ _ h => h) (yieldsIf_load_mid (by rfl) _ _ rfl _ _ rfl _ _ ?hS11 Tryd.underlying81 rfl HIY.out) (by assumption) ?rest11
      case hS11 =>
        intro w' hSw
        exact hSw.2
      try simp only [Act.put, List.getElem_toArray, List.getElem_cons_succ, List.getElem_cons_zero, List.setIfInBounds_toArray, List.set_cons_zero, List.set_cons_succ]
      refine wpAnyH_ready (rs := [6]) (by kernel_rfl) (by simp) (AllReadyH.cons (o := _) rfl (fun K hK => ?_) AllReadyH.nil)
      go_simp
      with_reducible refine (changePath_any x _).mono ?_
      rintro e w1 ⟨rfl, hb1⟩
      go_wp2_with fail
      refine hK.out _ _ (HALL.out _ (hbd.trans (hb1.mono hbd.size))) (fun hHeld => ?_)
      clear hK K
      try simp only [Act.put, List.getElem_toArray, List.getElem_cons_succ, List.getElem_cons_zero, List.setIfInBounds_toArray, List.set_cons_zero, List.set_cons_succ]
      refine wpAnyH_ready (rs := [12]) (by kernel_rfl) (by simp) (AllReadyH.cons (o := _) rfl (fun K hK => ?_) AllReadyH.nil)
      go_simp
      with_reducible refine (changePath_any y _).mono ?_
      rintro e w2 ⟨rfl, hb2⟩
      go_wp2_with fail
      refine hK.out _ _ (HALL.out _ (hbd.trans ((hb1.trans (hb2.mono hb1.size)).mono hbd.size))) (fun hHeld => ?_)
      clear hK K
      try simp only [Act.put, List.getElem_toArray, List.getElem_cons_succ, List.getElem_cons_zero, List.setIfInBounds_toArray, List.set_cons_zero, List.set_cons_succ]
      refine wpAnyH_take (i := 13) (oi := _) (v := ?v13) rfl (by kernel_rfl) (by kernel_rfl) (by kernel_rfl) (fun _ _ _ h => h) (Or.inl ⟨by rfl, ?hy13⟩) (by assumption) ?rest13
      case hy13 =>
        intro w' hSw
        go_simp
        try with_reducible rfl
      try simp only [Act.put, List.getElem_toArray, List.getElem_cons_succ, List.getElem_cons_zero, List.setIfInBounds_toArray, List.set_cons_zero, List.set_cons_succ]
      refine wpAnyH_done (by kernel_rfl) ?_ _
      have HB2 := Lib.hid (hbd.trans ((hb1.trans (hb2.mono hb1.size)).mono hbd.size))
      clear hb1 hb2 hbd hHeld hc
      have HM : Hid (upto Cg.p l (k + 1) = c) := by show _ = _; rw [HT.out, HA.out, HC.out]; rfl
      cases c
      · have HZ : Hid (ascB Cg.p l = false) := upto_false HM.out (by rw [HL.out.len]; omega)
        go_wp2_with fail
        go_ret
        exact ⟨ret_boolP HZ.out.symm, HB2.out⟩
      · go_wp2_with fail
        go_roundw
        case rel => exact ⟨k + 1, by omega, by go_num, HM.out, HB2.out⟩
        case measure => simp [intOf]; omega
    · have hd : decide ((k : Int) + 1 < (n : Int)) = false := by simp; omega
      have HZ : Hid (ascB Cg.p l = true) := by
        show upto Cg.p l (l.length - 1) = true
        have h1 := HA.out
        unfold upto at h1 ⊢
        rw [List.all_eq_true] at h1 ⊢
        intro i hi
        exact h1 i (by simp at hi ⊢; have := HL.out.len; omega)
      go_wp2_with fail
      go_ret
      exact ⟨ret_boolP HZ.out.symm, hbe.out⟩
/-- whether a list is a snapshot, a list of changes -/
def vldE (l : List En) : Bool := decide (l.length ≤ 64) && !l.any badE && ascB En.p l
def vldC (l : List Cg) : Bool := decide (l.length ≤ 128) && !l.any badC && ascB Cg.p l
set_option maxHeartbeats 400000 in
theorem Valid_any (sp : Option Addr) (n cap : Nat) (l : List En) (w : World) (hl : EnsIn w w.heap.size sp n cap l) (hn : n ≤ 1000000) :
    Calls Tryd.prog 17 #[.slice sp n cap] w fun e w' => e = .returned (.bool (vldE l)) ∧ Below w.heap.size w w' := by
  have HL := Lib.hid hl
  clear hl
  by_cases h64 : n ≤ 64
  · have hd : decide ((n : Int) ≤ 64) = true := by simp; omega
    have HV : Hid (vldE l = (!l.any badE && ascB En.p l)) := by show _ = _; unfold vldE; rw [decide_eq_true (by rw [HL.out.len]; exact h64)]; rfl
    obtain ⟨c, hc⟩ : ∃ c, l.any badE = c := ⟨_, rfl⟩
    have hF := fun w' (h : EnsIn w' w'.heap.size sp n cap l) => containsE_any sp n cap l w' h hn
    rw [hc] at hF
    have HC := Lib.hid hF; have HQ := Lib.hid hc
    clear hF hc h64
    cases c
    · go_enter Tryd.func17, Tryd.ntmps17
      go_wp2_with fail
      refine (HC.out _ HL.out).mono ?_
      rintro e w1 ⟨rfl, hb1⟩
      have HB1 := Lib.hid hb1; clear hb1
      go_wp2_with fail
      refine (ascendE_any sp n cap l _ (HL.out.below (HB1.out) (Nat.le_refl _) |>.below (Below.refl w1.heap.size w1) HB1.out.size) hn).mono ?_
      rintro e w2 ⟨rfl, hb2⟩
      have HB2 := Lib.hid hb2; clear hb2
      go_wp2_with fail
      go_ret
      exact ⟨ret_boolP (by rw [HV.out, HQ.out]; rfl), HB1.out.trans (HB2.out.mono HB1.out.size)⟩
    · go_enter Tryd.func17, Tryd.ntmps17
      go_wp2_with fail
      refine (HC.out _ HL.out).mono ?_
      rintro e w1 ⟨rfl, hb1⟩
      have HB1 := Lib.hid hb1; clear hb1
      go_wp2_with fail
      go_ret
      exact ⟨ret_boolP (by rw [HV.out, HQ.out]; rfl), HB1.out⟩
  · have hd : decide ((n : Int) ≤ 64) = false := by simp; omega
    have HV : Hid (vldE l = false) := by show _ = _; unfold vldE; rw [decide_eq_false (by rw [HL.out.len]; exact h64)]; rfl
    go_enter Tryd.func17, Tryd.ntmps17
    go_wp2_with fail
    go_ret
    exact ⟨ret_boolP HV.out.symm, Below.refl _ _⟩
set_option maxHeartbeats 400000 in
theorem validChanges_any (sp : Option Addr) (n cap : Nat) (l : List Cg) (w : World) (hl : CgsIn w w.heap.size sp n cap l) (hn : n ≤ 1000000) :
    Calls Tryd.prog 65 #[.slice sp n cap] w fun e w' => e = .returned (.bool (vldC l)) ∧ Below w.heap.size w w' := by
  have HL := Lib.hid hl
  clear hl
  by_cases h64 : n ≤ 128
  · have hd : decide ((n : Int) ≤ 128) = true := by simp; omega
    have HV : Hid (vldC l = (!l.any badC && ascB Cg.p l)) := by show _ = _; unfold vldC; rw [decide_eq_true (by rw [HL.out.len]; exact h64)]; rfl
    obtain ⟨c, hc⟩ : ∃ c, l.any badC = c := ⟨_, rfl⟩
    have hF := fun w' (h : CgsIn w' w'.heap.size sp n cap l) => containsU_any sp n cap l w' h hn
    rw [hc] at hF
    have HC := Lib.hid hF; have HQ := Lib.hid hc
    clear hF hc h64
    cases c
    · go_enter Tryd.func65, Tryd.ntmps65
      go_wp2_with fail
      refine (HC.out _ HL.out).mono ?_
      rintro e w1 ⟨rfl, hb1⟩
      have HB1 := Lib.hid hb1; clear hb1
      go_wp2_with fail
      refine (ascendC_any sp n cap l _ (HL.out.below (HB1.out) (Nat.le_refl _) |>.below (Below.refl w1.heap.size w1) HB1.out.size) hn).mono ?_
      rintro e w2 ⟨rfl, hb2⟩
      have HB2 := Lib.hid hb2; clear hb2
      go_wp2_with fail
      go_ret
      exact ⟨ret_boolP (by rw [HV.out, HQ.out]; rfl), HB1.out.trans (HB2.out.mono HB1.out.size)⟩
    · go_enter Tryd.func65, Tryd.ntmps65
      go_wp2_with fail
      refine (HC.out _ HL.out).mono ?_
      rintro e w1 ⟨rfl, hb1⟩
      have HB1 := Lib.hid hb1; clear hb1
      go_wp2_with fail
      go_ret
      exact ⟨ret_boolP (by rw [HV.out, HQ.out]; rfl), HB1.out⟩
  · have hd : decide ((n : Int) ≤ 128) = false := by simp; omega
    have HV : Hid (vldC l = false) := by show _ = _; unfold vldC; rw [decide_eq_false (by rw [HL.out.len]; exact h64)]; rfl
    go_enter Tryd.func65, Tryd.ntmps65
    go_wp2_with fail
    go_ret
    exact ⟨ret_boolP HV.out.symm, Below.refl _ _⟩
end Go.Proofs.YtkookkhlgllneaaDoor

namespace Go.Proofs.YtkookkhlgllneaaDoor
open Go.RowKit

theorem enA_one (x : En) : (enL x).toArray.all (·.oneCell') = true := Array.all_eq_true_iff_forall_mem.2 (by simpa using enL_one x)
theorem cgA_one (x : Cg) : (cgL x).toArray.all (·.oneCell') = true := Array.all_eq_true_iff_forall_mem.2 (by simpa using cgL_one x)
theorem infoE3 : (Tryd.prog.info? 70).map (fun i => (i.zero, i.size, i.bytes)) = some (some (.agg zE.toArray), 33, 48) := by kernel_rfl
theorem infoC3 : (Tryd.prog.info? 81).map (fun i => (i.zero, i.size, i.bytes)) = some (some (.agg zC.toArray), 65, 80) := by kernel_rfl
theorem wpList_build_eq {P : Program} {w : World} {ops : Array Oper} {rest : List Oper} {o : Oper} {a : Act} {Q : Exit → Act → World → Prop} (hgd : o.guard = none) (t : TypeId) (parts : List (Nat × Operand)) (ho : o.op = .build t parts.toArray)
    (vs : List (Nat × Value)) (hv : (parts.map fun (i, x) => (i, a.eval x)) = vs) (v : Value) (hrun : (Instr.build t vs.toArray).run P w = .ok v w) (h : wpList P ops Q rest (a.put o.dst v) w) : wpList P ops Q (o :: rest) a w :=
  wpList_plain hgd fun _ hK => by
    unfold Oper.wp execOp
    simp only [ho, Sem.run_bind, List.map_toArray, hv, hrun, Result.andThen_ok]
    exact hK _ _ h
theorem wpList_slice_eq {P : Program} {w : World} {ops : Array Oper} {rest : List Oper} {o : Oper} {a : Act} {Q : Exit → Act → World → Prop} (hgd : o.guard = none) (t : TypeId) (n : Nat) (parts : List (Nat × Operand)) (ho : o.op = .buildSlice t n parts.toArray)
    (vs : List (Nat × Value)) (hv : (parts.map fun (i, x) => (i, a.eval x)) = vs) (v : Value) (w' : World) (hrun : (Instr.buildSlice t n vs.toArray).run P w = .ok v w') (h : wpList P ops Q rest (a.put o.dst v) w') : wpList P ops Q (o :: rest) a w :=
  wpList_plain hgd fun _ hK => by
    unfold Oper.wp execOp
    simp only [ho, Sem.run_bind, List.map_toArray, hv, hrun, Result.andThen_ok]
    exact hK _ _ h
theorem own_shapeS {w : World} {base e size : Nat} {v : Value} {n : Nat} {xs : List Value} (h : w.ownsRow base e size v n xs) : ∃ sp cap, v = .slice sp n cap := by
  obtain ⟨_, ⟨rfl, h0⟩ | ⟨g, cap, _, rfl, _⟩⟩ := h
  · subst h0; exact ⟨_, _, rfl⟩
  · exact ⟨_, _, rfl⟩
theorem own_baseS {w : World} {base e size : Nat} {v : Value} {n : Nat} {xs : List Value} (h : w.ownsRow base e size v n xs) : ∀ k, v.ownBlock = some k → base ≤ k := by
  intro k hk
  obtain ⟨_, ⟨rfl, _⟩ | ⟨g, cap, _, rfl, hb, _⟩⟩ := h
  · cases hk
  · injection hk with hk; subst hk; exact hb
theorem own_belowS {w w' : World} {base e size : Nat} {v : Value} {n : Nat} {xs : List Value} (h : w.ownsRow base e size v n xs) (hb : Below w.heap.size w w') : w'.ownsRow base e size v n xs := by
  obtain ⟨hl, h1 | ⟨g, cap, cur, rfl, hbg, hg, rest⟩⟩ := h
  · exact ⟨hl, .inl h1⟩
  · exact ⟨hl, .inr ⟨g, cap, cur, rfl, hbg, (hb.block g (Array.getElem?_eq_some_iff.1 hg).1).trans hg, rest⟩⟩
/-- the cells of a list -/
def rowsE (l : List En) : List Value := l.flatMap enL
def rowsC (l : List Cg) : List Value := l.flatMap cgL
theorem rowsE_snoc (l : List En) (x : En) : rowsE (l ++ [x]) = rowsE l ++ enL x := by simp [rowsE]
theorem rowsC_snoc (l : List Cg) (x : Cg) : rowsC (l ++ [x]) = rowsC l ++ cgL x := by simp [rowsC]
/-- a list that the call owns -/
def OwnE (w : World) (base : Nat) (v : Value) (l : List En) : Prop := w.ownsRow base 70 33 v l.length (rowsE l) ∧ ∀ x ∈ l, OkE x
def OwnC (w : World) (base : Nat) (v : Value) (l : List Cg) : Prop := w.ownsRow base 81 65 v l.length (rowsC l) ∧ ∀ x ∈ l, OkC x
theorem flat_at {α : Type} (f : α → List Value) (sz : Nat) : ∀ (l : List α), (∀ x ∈ l, (f x).length = sz) → ∀ i x, l[i]? = some x → ∀ j v, (f x)[j]? = some v → (l.flatMap f)[i * sz + j]? = some v
  | [], _, i, x, hi, _, _, _ => by simp at hi
  | y :: l, h, 0, x, hi, j, v, hv => by
    have e : y = x := by simpa using hi
    subst e
    have hj := (List.getElem?_eq_some_iff.1 hv).1
    rw [List.flatMap_cons, Nat.zero_mul, Nat.zero_add, List.getElem?_append_left hj, hv]
  | y :: l, h, i + 1, x, hi, j, v, hv => by
    have hy := h y (by simp)
    rw [List.flatMap_cons, List.getElem?_append_right (by rw [hy, Nat.add_mul]; omega), hy, show (i + 1) * sz + j - sz = i * sz + j by rw [Nat.add_mul]; omega]
    exact flat_at f sz l (fun z hz => h z (by simp [hz])) i x (by simpa using hi) j v hv
theorem own_range {α : Type} {f : α → List Value} {sz : Nat} {w : World} {base e : Nat} {g n cap : Nat} {l : List α} (h : w.ownsRow base e sz (.slice (some ⟨g, 0, none⟩) n cap) l.length (l.flatMap f)) (hs : ∀ x ∈ l, (f x).length = sz) (hn : l.length = n) :
    g < w.heap.size ∧ n ≤ cap ∧ ∀ i x, l[i]? = some x → w.rangeAt g (0 + i * sz) (f x) := by
  obtain ⟨_, ⟨h1, _⟩ | ⟨g', cap', cur, h1, _, hg, hle, _, hsz, htk⟩⟩ := h
  · cases h1
  · injection h1 with h1 h2 h3
    injection h1 with h1; injection h1 with h1
    subst h1; subst h3
    refine ⟨(Array.getElem?_eq_some_iff.1 hg).1, by omega, fun i x hi j v hv => ?_⟩
    show w.cell? ⟨g, 0 + i * sz + j, none⟩ = some v
    rw [cell_of_row w g _ cur e _ hg, Nat.zero_add]
    have h4 := flat_at f sz l hs i x hi j v hv
    rw [← htk, List.getElem?_take] at h4
    split at h4
    · simpa using h4
    · cases h4
theorem OwnE.ens {w : World} {base : Nat} {sp : Option Addr} {n cap : Nat} {l : List En} (h : OwnE w base (.slice sp n cap) l) (hn : l.length = n) : EnsIn w w.heap.size sp n cap l := by
  refine ⟨hn, h.2, fun h0 => ?_⟩
  have h1 := h.1
  obtain ⟨_, ⟨e, e0⟩ | ⟨g, cap', cur, e, _⟩⟩ := h.1
  · omega
  · injection e with e1 e2 e3
    subst e1
    obtain ⟨hg, hc, hr⟩ := own_range (f := enL) h1 (fun x hx => enL_length (h.2 x hx)) hn
    exact ⟨g, 0, rfl, hg, hc, hr⟩
theorem OwnC.cgs {w : World} {base : Nat} {sp : Option Addr} {n cap : Nat} {l : List Cg} (h : OwnC w base (.slice sp n cap) l) (hn : l.length = n) : CgsIn w w.heap.size sp n cap l := by
  refine ⟨hn, h.2, fun h0 => ?_⟩
  have h1 := h.1
  obtain ⟨_, ⟨e, e0⟩ | ⟨g, cap', cur, e, _⟩⟩ := h.1
  · omega
  · injection e with e1 e2 e3
    subst e1
    obtain ⟨hg, hc, hr⟩ := own_range (f := cgL) h1 (fun x hx => cgL_length (h.2 x hx)) hn
    exact ⟨g, 0, rfl, hg, hc, hr⟩
theorem OwnE.shape {w : World} {base : Nat} {v : Value} {l : List En} (h : OwnE w base v l) : ∃ sp cap, v = .slice sp l.length cap := own_shapeS h.1
theorem OwnC.shape {w : World} {base : Nat} {v : Value} {l : List Cg} (h : OwnC w base v l) : ∃ sp cap, v = .slice sp l.length cap := own_shapeS h.1
theorem OwnE.below {w w' : World} {base : Nat} {v : Value} {l : List En} (h : OwnE w base v l) (hb : Below w.heap.size w w') : OwnE w' base v l := ⟨own_belowS h.1 hb, h.2⟩
theorem OwnC.below {w w' : World} {base : Nat} {v : Value} {l : List Cg} (h : OwnC w base v l) (hb : Below w.heap.size w w') : OwnC w' base v l := ⟨own_belowS h.1 hb, h.2⟩
theorem OwnE.nil (w : World) (base : Nat) : OwnE w base (.slice none 0 0) [] := ⟨World.ownsRow_nil w base _ _, by simp⟩
theorem OwnC.nil (w : World) (base : Nat) : OwnC w base (.slice none 0 0) [] := ⟨World.ownsRow_nil w base _ _, by simp⟩

/-- append(own, x) -/
theorem wpList_append_en {w : World} {ops : Array Oper} {rest : List Oper} {o : Oper} {a : Act} {Q : Exit → Act → World → Prop} (hgd : o.guard = none) (s x : Operand)
    (ho : o.op = .call { callee := .builtin .append, args := #[s, x], argTypes := #[22, 22] }) (base : Nat) (v : Value) (l : List En) (n : Nat) (hn : n = l.length) (hs : a.eval s = v) (hown : OwnE w base v l)
    (g : Nat) (y : En) (hx : a.eval x = .slice (some ⟨g, 0, none⟩) 1 1) (hy : EnB w g y) (hok : OkE y) (hlen : n ≤ 1000000) (hbase : base ≤ w.heap.size)
    (h : ∀ sp cap w', Hid (OwnE w' base (.slice sp (n + 1) cap) (l ++ [y])) → Hid (Below base w w') → Hid (w.grownBy w' v.ownBlock) → wpList Tryd.prog ops Q rest (a.put o.dst (.slice sp (n + 1) cap)) w') : wpList Tryd.prog ops Q (o :: rest) a w := by
  subst hn
  obtain ⟨i0, hi0, hz0, hz1, hz2⟩ := info_parts infoE3
  refine wpList_append_own w hgd s x _ ho base _ i0 _ 33 48 Tryd.underlying22 hi0 hz0 hz1 hz2 rfl (by decide) v l.length _ hs hown.1 ⟨g, 0, none⟩ 1 1 (enL y) hx (by rw [enL_length hok]) ?_ (enL_one y) (by unfold maxLen; omega) (by omega) hbase ?_
  · intro j u hj
    rw [Addr.add_mid]
    exact hy.all j u hj
  · intro v' w' h1 h2 _
    obtain ⟨sp, cap, rfl⟩ := own_shapeS h1
    refine h sp cap w' ⟨by rw [rowsE_snoc, List.length_append]; exact h1, fun z hz => ?_⟩ ((Below.refl base w).grown h2 hbase (own_baseS hown.1)) h2
    rcases List.mem_append.1 hz with hz | hz
    · exact hown.2 z hz
    · rw [List.mem_singleton.1 hz]; exact hok
theorem wpList_append_cg {w : World} {ops : Array Oper} {rest : List Oper} {o : Oper} {a : Act} {Q : Exit → Act → World → Prop} (hgd : o.guard = none) (s x : Operand)
    (ho : o.op = .call { callee := .builtin .append, args := #[s, x], argTypes := #[40, 40] }) (base : Nat) (v : Value) (l : List Cg) (n : Nat) (hn : n = l.length) (hs : a.eval s = v) (hown : OwnC w base v l)
    (g : Nat) (y : Cg) (hx : a.eval x = .slice (some ⟨g, 0, none⟩) 1 1) (hy : CgB w g y) (hok : OkC y) (hlen : n ≤ 1000000) (hbase : base ≤ w.heap.size)
    (h : ∀ sp cap w', Hid (OwnC w' base (.slice sp (n + 1) cap) (l ++ [y])) → Hid (Below base w w') → Hid (w.grownBy w' v.ownBlock) → wpList Tryd.prog ops Q rest (a.put o.dst (.slice sp (n + 1) cap)) w') : wpList Tryd.prog ops Q (o :: rest) a w := by
  subst hn
  obtain ⟨i0, hi0, hz0, hz1, hz2⟩ := info_parts infoC3
  refine wpList_append_own w hgd s x _ ho base _ i0 _ 65 80 Tryd.underlying40 hi0 hz0 hz1 hz2 rfl (by decide) v l.length _ hs hown.1 ⟨g, 0, none⟩ 1 1 (cgL y) hx (by rw [cgL_length hok]) ?_ (cgL_one y) (by unfold maxLen; omega) (by omega) hbase ?_
  · intro j u hj
    rw [Addr.add_mid]
    exact hy.all j u hj
  · intro v' w' h1 h2 _
    obtain ⟨sp, cap, rfl⟩ := own_shapeS h1
    refine h sp cap w' ⟨by rw [rowsC_snoc, List.length_append]; exact h1, fun z hz => ?_⟩ ((Below.refl base w).grown h2 hbase (own_baseS hown.1)) h2
    rcases List.mem_append.1 hz with hz | hz
    · exact hown.2 z hz
    · rw [List.mem_singleton.1 hz]; exact hok
end Go.Proofs.YtkookkhlgllneaaDoor

namespace Go.Proofs.YtkookkhlgllneaaDoor
open Go.RowKit

set_option maxRecDepth 100000 in
set_option maxHeartbeats 400000 in
theorem kept_any (p : ByteArray) (d : List Int) (w : World) (hd : D32 d) :
    Calls Tryd.prog 140 #[.string p, .agg (d.map (Value.int .u8)).toArray] w fun e w' => e = .returned (.agg (cgL (kp p d)).toArray) ∧ Below w.heap.size w w' := by
  have hr : ∀ o, ((w.alloc (.cells (d.map (Value.int .u8)).toArray 28)).alloc o).rangeAt w.heap.size 0 (d.map (Value.int .u8)) := fun o =>
    range_row (pre := []) (post := []) (t := 28) (fz := (0, 0)) (cs := d.map (Value.int .u8)) ((Below.heap_alloc _ _ _ (by simp)).trans (heap_alloc_new w _)) (by simp) rfl
  have hg : ∀ o, ((w.alloc (.cells (d.map (Value.int .u8)).toArray 28)).alloc o).heap[w.heap.size + 1]? = some o := fun o => by
    have := heap_alloc_new (w.alloc (.cells (d.map (Value.int .u8)).toArray 28)) o; rwa [World.size_alloc] at this
  have hb : ∀ o, Below w.heap.size w ((w.alloc (.cells (d.map (Value.int .u8)).toArray 28)).alloc o) := fun o => ((Below.refl _ w).alloc (Nat.le_refl _) _).alloc (by simp) _
  have HR := Lib.hid hr; have HG := Lib.hid hg; have HB := Lib.hid hb; have HI := Lib.hid (info_d hd)
  have hok : OkC (⟨p, d, d⟩ : Cg) := ⟨hd, hd⟩
  have HC := Lib.hid (info_c hok)
  have HS : Hid (65 = (cgL ⟨p, d, d⟩).toArray.size) := by show _ = _; rw [List.size_toArray, cgL_length hok]
  have HD := Lib.hid hd
  have HC2 : Hid ((Tryd.prog.info? 81).map (·.size) = some (cgL ⟨p, d, d⟩).toArray.size) := by show _ = _; rw [List.size_toArray]; exact HC.out
  clear hr hg hb hd hok
  go_enter Tryd.func140, Tryd.ntmps140
  go_wp2_with (first
    | (refine wpList_load_mid rfl 28 _ rfl w.heap.size 0 rfl _ _ (HR.out _) Tryd.underlying28 rfl HI.out ?_)
    | (refine wpList_build_eq rfl 81 [(0, .tmp 5), (1, .tmp 6), (2, .tmp 7)] rfl [(0, .string p), (1, .agg (d.map (Value.int .u8)).toArray), (2, .agg (d.map (Value.int .u8)).toArray)] rfl _ (buildC p d d HD.out.1 HD.out.1 _) ?_)
    | (refine wpList_store_row rfl 81 _ _ rfl (w.heap.size + 1) _ rfl rfl 81 Tryd.zeroCells81 (HG.out _) HC2.out ((rfl : (Tryd.zeroCells81).size = 65).trans HS.out) (cgA_one ⟨p, d, d⟩) ?_; have hB2 := below_setRow (HB.out (.cells Tryd.zeroCells81 81)) (Nat.le_succ w.heap.size) (cgL ⟨p, d, d⟩).toArray; have hR2 := setRow_heap _ _ _ (cgL ⟨p, d, d⟩).toArray _ _ (HG.out (.cells Tryd.zeroCells81 81)); generalize World.setRow _ _ _ = w2 at hB2 hR2 ⊢; have HB2 := Lib.hid hB2; have HR2 := Lib.hid hR2; clear hB2 hR2))
  exact bodyPost_ret (results_cell_row (P := Tryd.prog) rfl _ _ (w.heap.size + 1) 81 _ (0, 0) _ rfl HR2.out Tryd.underlying81 rfl HC2.out) rfl ⟨rfl, HB2.out⟩
set_option maxRecDepth 100000 in
set_option maxHeartbeats 1000000 in
theorem creations_any (sp : Option Addr) (n cap : Nat) (l : List En) (w : World) (hl : EnsIn w w.heap.size sp n cap l) (hn : n ≤ 1000000) :
    Calls Tryd.prog 64 #[.slice sp n cap] w fun e w' => ∃ sp' cap', e = .returned (.slice sp' n cap') ∧ OwnC w' w.heap.size (.slice sp' n cap') (cre l) ∧ Below w.heap.size w w' := by
  have HL := Lib.hid hl
  clear hl
  obtain ⟨i0, hi0, hz0, hz1, hz2⟩ := info_parts infoC3
  go_enter Tryd.func64, Tryd.ntmps64
  go_wp2_with (refine wpList_make_own w rfl _ _ 40 rfl w.heap.size 81 i0 _ 65 Tryd.underlying40 hi0 hz0 hz1 .i64 .i64 (n : Int) n rfl rfl rfl (by rw [hz2]; omega) (by unfold maxLen; omega) (Nat.le_refl _) ?_; intro w1 hown1 hg1)
  have HB1 := Lib.hid ((Below.refl w.heap.size w).grown hg1 (Nat.le_refl _) (fun k e => by cases e))
  have HO1 := Lib.hid hown1
  clear hg1 hown1 hi0 hz0 hz1 hz2
  go_loopw [3, 11] (fun v i wr => ∃ (k : Nat) (sp' : Option Addr) (cap' : Nat), k ≤ n ∧ i = .int .i64 k ∧ v = .slice sp' k cap' ∧ Hid (OwnC wr w.heap.size (.slice sp' k cap') (cre (l.take k))) ∧ Hid (Below w.heap.size w wr)) (fun _ i _ => n - (intOf i).toNat)
  case atStart => exact ⟨0, _, _, Nat.zero_le _, rfl, rfl, ⟨HO1.out, by simp [cre]⟩, HB1.out⟩
  case round =>
    clear HO1 HB1
    obtain ⟨k, sp', cap', hk, rfl, rfl, hown, hbe⟩ := hrel
    have hbs := hbe.out.size
    by_cases hlt : k < n
    · have hd : decide ((k : Int) < (n : Int)) = true := by simp; omega
      obtain ⟨b, off, rfl, hbB, hcap, hr⟩ := HL.out.cells (by omega)
      have hkl : k < l.length := by rw [HL.out.len]; exact hlt
      obtain ⟨x, hx⟩ : ∃ x, l[k]? = some x := ⟨l[k], List.getElem?_eq_getElem hkl⟩
      have hok := HL.out.ok x (List.mem_of_getElem? hx)
      have HR := Lib.hid (range_belowS (hr k x hx) hbe.out hbB)
      have HI := Lib.hid (info_e hok); have HOK := Lib.hid hok
      have HS : Hid (33 = (enL x).toArray.size) := by show _ = _; rw [List.size_toArray, enL_length hok]
      have HT : Hid (cre (l.take (k + 1)) = cre (l.take k) ++ [⟨x.p, zed, x.d⟩]) := by show _ = _; rw [List.take_add_one, hx]; simp [cre]
      have HKL : Hid (k = (cre (l.take k)).length) := by show _ = _; simp [cre]; omega
      have p1 : (0 : Int) ≤ (k : Int) := by omega
      have p2 : (k : Int) < (n : Int) := by omega
      clear hr hx hkl hok
      go_wp2_with (first
        | (refine wpList_load_mid rfl 70 _ rfl b (off + k * 33) rfl _ _ HR.out Tryd.underlying70 rfl HI.out ?_)
        | (refine wpList_store_row rfl 70 _ _ rfl wr.heap.size _ rfl rfl 70 _ (heap_alloc_new wr _) (by simpa using HI.out) (by simpa using HS.out) (Array.all_eq_true_iff_forall_mem.2 (by simpa using enL_one x)) ?_; rw [setRow_new]; generalize hw2 : World.alloc wr _ = w2; have he2 : EnB w2 wr.heap.size x := (by rw [← hw2]; exact heap_alloc_new _ _); have hb2 : Below wr.heap.size wr w2 := (by rw [← hw2]; exact (Below.refl _ _).alloc (Nat.le_refl _) _); have hz2 : wr.heap.size < w2.heap.size := (by rw [← hw2]; simp); have hp2 := he2.p; have HE2 := Lib.hid he2; have HW2 := Lib.hid hb2; have HO2 := Lib.hid (hown.out.below hb2); clear hw2 he2 hb2)
        | (refine wpList_load_mid rfl 28 _ rfl wr.heap.size 1 rfl _ _ HE2.out.d Tryd.underlying28 rfl (info_d HOK.out) ?_)
        | (refine wpList_build_eq rfl 81 [(0, .tmp 17), (2, .tmp 19)] rfl [(0, .string x.p), (2, .agg (x.d.map (Value.int .u8)).toArray)] rfl _ (buildC2 x.p x.d HOK.out.1 _) ?_)
        | (refine wpList_slice_eq rfl 40 1 [(0, .tmp 20)] rfl [(0, .agg (cgL ⟨x.p, zed, x.d⟩).toArray)] rfl _ _ (sliceC _ ⟨x.p, zed, x.d⟩ ⟨D32.zed, HOK.out⟩) ?_; generalize hw3 : World.alloc w2 _ = w3; have he3 : CgB w3 w2.heap.size ⟨x.p, zed, x.d⟩ := (by rw [← hw3]; exact heap_alloc_new _ _); have hb3 : Below w2.heap.size w2 w3 := (by rw [← hw3]; exact (Below.refl _ _).alloc (Nat.le_refl _) _); have hz3 : w2.heap.size < w3.heap.size := (by rw [← hw3]; simp); have HE3 := Lib.hid he3; have HW3 := Lib.hid (HW2.out.trans (hb3.mono (by omega))); have HO3 := Lib.hid (HO2.out.below hb3); clear hw3 he3 hb3)
        | (at_builtin; refine wpList_append_cg rfl (.tmp 15) (.tmp 21) rfl w.heap.size _ _ k HKL.out rfl HO3.out w2.heap.size ⟨x.p, zed, x.d⟩ rfl HE3.out ⟨D32.zed, HOK.out⟩ (by omega) (by omega) ?_; intro sp4 cap4 w4 HO4 HB4 HG4))
      have HB5 := Lib.hid ((hbe.out.trans (HW3.out.mono hbs)).trans HB4.out)
      go_roundw
      case rel => exact ⟨k + 1, sp4, cap4, hlt, by go_num, rfl, by show OwnC _ _ _ _; rw [HT.out]; exact HO4.out, HB5.out⟩
      case measure => simp [intOf]; omega
    · obtain rfl : k = n := by omega
      have hd : decide ((k : Int) < (k : Int)) = false := by simp
      have HT : Hid (cre (l.take k) = cre l) := by show _ = _; rw [List.take_of_length_le (by rw [HL.out.len]; exact Nat.le_refl _)]
      go_wp2_with fail
      go_ret
      exact ⟨sp', cap', rfl, by rw [← HT.out]; exact hown.out, hbe.out⟩
set_option maxRecDepth 100000 in
set_option maxHeartbeats 1000000 in
theorem inverse_any (sp : Option Addr) (n cap : Nat) (l : List Cg) (w : World) (hl : CgsIn w w.heap.size sp n cap l) (hn : n ≤ 1000000) :
    Calls Tryd.prog 63 #[.slice sp n cap] w fun e w' => ∃ sp' cap', e = .returned (.slice sp' n cap') ∧ OwnC w' w.heap.size (.slice sp' n cap') (inv l) ∧ Below w.heap.size w w' := by
  have HL := Lib.hid hl
  clear hl
  obtain ⟨i0, hi0, hz0, hz1, hz2⟩ := info_parts infoC3
  go_enter Tryd.func63, Tryd.ntmps63
  go_wp2_with (refine wpList_make_own w rfl _ _ 40 rfl w.heap.size 81 i0 _ 65 Tryd.underlying40 hi0 hz0 hz1 .i64 .i64 (n : Int) n rfl rfl rfl (by rw [hz2]; omega) (by unfold maxLen; omega) (Nat.le_refl _) ?_; intro w1 hown1 hg1)
  have HB1 := Lib.hid ((Below.refl w.heap.size w).grown hg1 (Nat.le_refl _) (fun k e => by cases e))
  have HO1 := Lib.hid hown1
  clear hg1 hown1 hi0 hz0 hz1 hz2
  go_loopw [3, 11] (fun v i wr => ∃ (k : Nat) (sp' : Option Addr) (cap' : Nat), k ≤ n ∧ i = .int .i64 k ∧ v = .slice sp' k cap' ∧ Hid (OwnC wr w.heap.size (.slice sp' k cap') (inv (l.take k))) ∧ Hid (Below w.heap.size w wr)) (fun _ i _ => n - (intOf i).toNat)
  case atStart => exact ⟨0, _, _, Nat.zero_le _, rfl, rfl, ⟨HO1.out, by simp [inv]⟩, HB1.out⟩
  case round =>
    clear HO1 HB1
    obtain ⟨k, sp', cap', hk, rfl, rfl, hown, hbe⟩ := hrel
    have hbs := hbe.out.size
    by_cases hlt : k < n
    · have hd : decide ((k : Int) < (n : Int)) = true := by simp; omega
      obtain ⟨b, off, rfl, hbB, hcap, hr⟩ := HL.out.cells (by omega)
      have hkl : k < l.length := by rw [HL.out.len]; exact hlt
      obtain ⟨x, hx⟩ : ∃ x, l[k]? = some x := ⟨l[k], List.getElem?_eq_getElem hkl⟩
      have hok := HL.out.ok x (List.mem_of_getElem? hx)
      have HR := Lib.hid (range_belowS (hr k x hx) hbe.out hbB)
      have HI := Lib.hid (info_c hok); have HOK := Lib.hid hok
      have HS : Hid (65 = (cgL x).toArray.size) := by show _ = _; rw [List.size_toArray, cgL_length hok]
      have HT : Hid (inv (l.take (k + 1)) = inv (l.take k) ++ [⟨x.p, x.n, x.o⟩]) := by show _ = _; rw [List.take_add_one, hx]; simp [inv]
      have HKL : Hid (k = (inv (l.take k)).length) := by show _ = _; simp [inv]; omega
      have p1 : (0 : Int) ≤ (k : Int) := by omega
      have p2 : (k : Int) < (n : Int) := by omega
      clear hr hx hkl hok
      go_wp2_with (first
        | (refine wpList_load_mid rfl 81 _ rfl b (off + k * 65) rfl _ _ HR.out Tryd.underlying81 rfl HI.out ?_)
        | (refine wpList_store_row rfl 81 _ _ rfl wr.heap.size _ rfl rfl 81 _ (heap_alloc_new wr _) (by simpa using HI.out) (by simpa using HS.out) (Array.all_eq_true_iff_forall_mem.2 (by simpa using cgL_one x)) ?_; rw [setRow_new]; generalize hw2 : World.alloc wr _ = w2; have he2 : CgB w2 wr.heap.size x := (by rw [← hw2]; exact heap_alloc_new _ _); have hb2 : Below wr.heap.size wr w2 := (by rw [← hw2]; exact (Below.refl _ _).alloc (Nat.le_refl _) _); have hz2 : wr.heap.size < w2.heap.size := (by rw [← hw2]; simp); have hp2 := he2.p; have HE2 := Lib.hid he2; have HW2 := Lib.hid hb2; have HO2 := Lib.hid (hown.out.below hb2); clear hw2 he2 hb2)
        | (refine wpList_load_mid rfl 28 _ rfl wr.heap.size 33 rfl _ _ (HE2.out.n HOK.out) Tryd.underlying28 rfl (info_d HOK.out.2) ?_)
        | (refine wpList_load_mid rfl 28 _ rfl wr.heap.size 1 rfl _ _ HE2.out.o Tryd.underlying28 rfl (info_d HOK.out.1) ?_)
        | (refine wpList_build_eq rfl 81 [(0, .tmp 17), (1, .tmp 19), (2, .tmp 21)] rfl [(0, .string x.p), (1, .agg (x.n.map (Value.int .u8)).toArray), (2, .agg (x.o.map (Value.int .u8)).toArray)] rfl _ (buildC x.p x.n x.o HOK.out.2.1 HOK.out.1.1 _) ?_)
        | (refine wpList_slice_eq rfl 40 1 [(0, .tmp 22)] rfl [(0, .agg (cgL ⟨x.p, x.n, x.o⟩).toArray)] rfl _ _ (sliceC _ ⟨x.p, x.n, x.o⟩ ⟨HOK.out.2, HOK.out.1⟩) ?_; generalize hw3 : World.alloc w2 _ = w3; have he3 : CgB w3 w2.heap.size ⟨x.p, x.n, x.o⟩ := (by rw [← hw3]; exact heap_alloc_new _ _); have hb3 : Below w2.heap.size w2 w3 := (by rw [← hw3]; exact (Below.refl _ _).alloc (Nat.le_refl _) _); have hz3 : w2.heap.size < w3.heap.size := (by rw [← hw3]; simp); have HE3 := Lib.hid he3; have HW3 := Lib.hid (HW2.out.trans (hb3.mono (by omega))); have HO3 := Lib.hid (HO2.out.below hb3); clear hw3 he3 hb3)
        | (at_builtin; refine wpList_append_cg rfl (.tmp 15) (.tmp 23) rfl w.heap.size _ _ k HKL.out rfl HO3.out w2.heap.size ⟨x.p, x.n, x.o⟩ rfl HE3.out ⟨HOK.out.2, HOK.out.1⟩ (by omega) (by omega) ?_; intro sp4 cap4 w4 HO4 HB4 HG4))
      have HB5 := Lib.hid ((hbe.out.trans (HW3.out.mono hbs)).trans HB4.out)
      go_roundw
      case rel => exact ⟨k + 1, sp4, cap4, hlt, by go_num, rfl, by show OwnC _ _ _ _; rw [HT.out]; exact HO4.out, HB5.out⟩
      case measure => simp [intOf]; omega
    · obtain rfl : k = n := by omega
      have hd : decide ((k : Int) < (k : Int)) = false := by simp
      have HT : Hid (inv (l.take k) = inv l) := by show _ = _; rw [List.take_of_length_le (by rw [HL.out.len]; exact Nat.le_refl _)]
      go_wp2_with fail
      go_ret
      exact ⟨sp', cap', rfl, by rw [← HT.out]; exact hown.out, hbe.out⟩
end Go.Proofs.YtkookkhlgllneaaDoor
