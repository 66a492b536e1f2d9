/-
  Plain mathematics, without conditions beyond those of each lemma: lists of entries and of changes in ascending order of their paths, two such lists side by side, and what insertion makes (no program is named here but for its name space).
-/
import Derived.Test.YtecllfbadciaoaaGreatDoorQ2
import Derived.Sort.Walk0
import Derived.ChangeKeysEq
import Derived.Laws.Tables
import Derived.Great.BuildSlice
import Derived.Laws.CopyOwn
set_option maxRecDepth 100000
set_option maxHeartbeats 8000000
namespace Go.Proofs.YtecllfbadciaoaaGreatDoor
open Go
def pls (a b : ByteArray) : Bool := Op.bytesLess a.toList b.toList
theorem pls_iff (a b : ByteArray) : pls a b = true ↔ a.toList < b.toList := by unfold pls; rw [bytesLess_eq]; simp
theorem toList_inj {a b : ByteArray} (h : a.toList = b.toList) : a = b := by
 cases a with | mk a => cases b with | mk b =>
  rw [Lib.toList_data, Lib.toList_data] at h
  exact congrArg _ (Array.toList_inj.1 h)
theorem pls_irrefl (a : ByteArray) : pls a a = false := by
 rw [Bool.eq_false_iff]; intro h; exact List.lt_irrefl _ ((pls_iff a a).1 h)
theorem pls_trans {a b c : ByteArray} (h : pls a b = true) (k : pls b c = true) : pls a c = true :=
 (pls_iff a c).2 (List.lt_trans ((pls_iff a b).1 h) ((pls_iff b c).1 k))
theorem pls_asymm {a b : ByteArray} (h : pls a b = true) : pls b a = false := by
 rw [Bool.eq_false_iff]; intro k; exact absurd (pls_trans h k) (by rw [pls_irrefl]; simp)
theorem pls_tri {a b : ByteArray} (h : pls a b = false) (k : pls b a = false) : a = b := by
 refine toList_inj (List.le_antisymm ?_ ?_)
 ·exact fun hh => absurd ((pls_iff b a).2 hh) (by rw [k]; simp)
 ·exact fun hh => absurd ((pls_iff a b).2 hh) (by rw [h]; simp)
theorem pls_ne {a b : ByteArray} (h : pls a b = true) : a ≠ b := fun e => by rw [e, pls_irrefl] at h; cases h
structure En where
 p : ByteArray
 d : List Int
deriving DecidableEq
structure Cg where
 p : ByteArray
 o : List Int
 n : List Int
deriving DecidableEq
section
variable {α : Type} (f : α → ByteArray)
def Srt (l : List α) : Prop := l.Pairwise fun x y => pls (f x) (f y) = true
def upto (l : List α) (k : Nat) : Bool := (List.range k).all fun i => match l[i]?, l[i + 1]? with
 | some x, some y => pls (f x) (f y)
 | _, _ => true
def ascB (l : List α) : Bool := upto f l (l.length - 1)
variable {f}
theorem upto_succ {l : List α} {k : Nat} {x y : α} (hx : l[k]? = some x) (hy : l[k + 1]? = some y) : upto f l (k + 1) = (upto f l k && pls (f x) (f y)) := by
 unfold upto; rw [List.range_succ, List.all_append]; simp [hx, hy]
theorem upto_false {l : List α} {k m : Nat} (h : upto f l k = false) (hm : k ≤ m) : upto f l m = false := by
 unfold upto at h ⊢
 rw [List.all_eq_false] at h ⊢
 obtain ⟨i, hi, hh⟩ := h
 exact ⟨i, by simp at hi ⊢; omega, hh⟩
theorem srt_of_steps : ∀ {l : List α}, (∀ i x y, l[i]? = some x → l[i + 1]? = some y → pls (f x) (f y) = true) → Srt f l
 | [], _ => List.Pairwise.nil
 | [x], _ => List.pairwise_singleton _ _
 | x :: y :: r, h => by
   have h1 := h 0 x y rfl rfl
   have h2 : Srt f (y :: r) := srt_of_steps fun i a b ha hb => h (i + 1) a b ha hb
   refine List.Pairwise.cons (fun z hz => ?_) h2
   rcases List.mem_cons.1 hz with e | hz
   ·subst e; exact h1
   ·exact pls_trans h1 ((List.pairwise_cons.1 h2).1 z hz)
theorem ascB_iff (l : List α) : ascB f l = true ↔ Srt f l := by
 unfold ascB upto
 rw [List.all_eq_true]
 constructor
 ·intro h
  refine srt_of_steps fun i x y hx hy => ?_
  have hl := (List.getElem?_eq_some_iff.1 hy).1
  have := h i (by simp; omega)
  simpa [hx, hy] using this
 ·intro h i hi
  have hl : i < l.length - 1 := by simpa using hi
  have h1 : i < l.length := by omega
  have h2 : i + 1 < l.length := by omega
  have := List.pairwise_iff_getElem.1 h i (i + 1) h1 h2 (by omega)
  simpa [h1, h2] using this
theorem Srt.tail {x : α} {l : List α} (h : Srt f (x :: l)) : Srt f l := (List.pairwise_cons.1 h).2
theorem Srt.head {x y : α} {l : List α} (h : Srt f (x :: l)) (hy : y ∈ l) : pls (f x) (f y) = true := (List.pairwise_cons.1 h).1 y hy
theorem Srt.one {l : List α} (h : Srt f l) : ∀ {x y : α}, x ∈ l → y ∈ l → f x = f y → x = y := by
 induction l with
 | nil => intro x y hx; cases hx
 | cons z l ih =>
   intro x y hx hy e
   rcases List.mem_cons.1 hx with rfl | hx
   ·rcases List.mem_cons.1 hy with rfl | hy
    ·rfl
    ·exact absurd e (pls_ne (h.head hy))
   ·rcases List.mem_cons.1 hy with e' | hy
    ·exact absurd (by rw [← e', e]) (pls_ne (Srt.head h hx))
    ·exact ih h.tail hx hy e
theorem Srt.ext : ∀ {a b : List α}, Srt f a → Srt f b → (∀ x, x ∈ a ↔ x ∈ b) → a = b
 | [], [], _, _, _ => rfl
 | [], y :: b, _, _, h => absurd ((h y).2 (by simp)) (by simp)
 | x :: a, [], _, _, h => absurd ((h x).1 (by simp)) (by simp)
 | x :: a, y :: b, ha, hb, h => by
   have hx := (h x).1 (by simp)
   have hy := (h y).2 (by simp)
   have e : x = y := by
    rcases List.mem_cons.1 hx with e | hx
    ·exact e
    rcases List.mem_cons.1 hy with e | hy
    ·exact e.symm
    ·have h1 := pls_asymm (Srt.head ha hy); rw [Srt.head hb hx] at h1; cases h1
   subst e
   have : a = b := Srt.ext ha.tail hb.tail fun z => by
    constructor
    ·intro hz
     rcases List.mem_cons.1 ((h z).1 (List.mem_cons_of_mem _ hz)) with e | hz'
     ·subst e; exact absurd rfl (pls_ne (ha.head hz))
     ·exact hz'
    ·intro hz
     rcases List.mem_cons.1 ((h z).2 (List.mem_cons_of_mem _ hz)) with e | hz'
     ·subst e; exact absurd rfl (pls_ne (hb.head hz))
     ·exact hz'
   rw [this]
def ins (f : α → ByteArray) (l : List α) (x : α) : List α := l.takeWhile (fun y => pls (f y) (f x)) ++ x :: l.dropWhile (fun y => pls (f y) (f x))
theorem ins_nil (x : α) : ins f [] x = [x] := rfl
theorem ins_cons (y : α) (l : List α) (x : α) : ins f (y :: l) x = if pls (f y) (f x) then y :: ins f l x else x :: y :: l := by
 unfold ins
 by_cases h : pls (f y) (f x) = true
 ·simp [h]
 ·have h' : pls (f y) (f x) = false := by simpa using h
  simp [h']
theorem mem_ins {l : List α} {x z : α} : z ∈ ins f l x ↔ z = x ∨ z ∈ l := by
 induction l with
 | nil => simp [ins_nil]
 | cons y l ih =>
   rw [ins_cons]
   split
   ·rw [List.mem_cons, ih, List.mem_cons]
    constructor
    ·rintro (h | h | h)
     ·exact .inr (.inl h)
     ·exact .inl h
     ·exact .inr (.inr h)
    ·rintro (h | h | h)
     ·exact .inr (.inl h)
     ·exact .inl h
     ·exact .inr (.inr h)
   ·rw [List.mem_cons]
theorem length_ins (l : List α) (x : α) : (ins f l x).length = l.length + 1 := by
 induction l with
 | nil => rfl
 | cons y l ih => rw [ins_cons]; split <;> simp [ih]
theorem Srt.ins {l : List α} {x : α} (h : Srt f l) (hn : ∀ y ∈ l, f y ≠ f x) : Srt f (ins f l x) := by
 induction l with
 | nil => exact List.pairwise_singleton _ _
 | cons y l ih =>
   rw [ins_cons]
   split
   ·rename_i hy
    refine List.Pairwise.cons (fun z hz => ?_) (ih h.tail fun w hw => hn w (List.mem_cons_of_mem _ hw))
    rcases mem_ins.1 hz with e | hz
    ·subst e; exact hy
    ·exact h.head hz
   ·rename_i hy
    have hy' : pls (f y) (f x) = false := by simpa using hy
    have hxy : pls (f x) (f y) = true := by
     by_cases hh : pls (f x) (f y) = true
     ·exact hh
     ·exact absurd (pls_tri hy' (by simpa using hh)) (hn y (by simp))
    refine List.Pairwise.cons (fun z hz => ?_) h
    rcases List.mem_cons.1 hz with e | hz
    ·subst e; exact hxy
    ·exact pls_trans hxy (h.head hz)
end
/-! ### two lists of changes side by side -/
def kp (p : ByteArray) (d : List Int) : Cg := ⟨p, d, d⟩
def Side (a b : List Cg) (q : Cg × Cg) : Prop := (q.1 ∈ a ∧ q.2 ∈ b ∧ q.1.p = q.2.p) ∨ (q.1 ∈ a ∧ (∀ z ∈ b, z.p ≠ q.1.p) ∧ q.2 = kp q.1.p q.1.n) ∨ (q.2 ∈ b ∧ (∀ z ∈ a, z.p ≠ q.2.p) ∧ q.1 = kp q.2.p q.2.o)
theorem Side.same {a b : List Cg} {q : Cg × Cg} (h : Side a b q) : q.1.p = q.2.p := by
 rcases h with ⟨_, _, h⟩ | ⟨_, _, h⟩ | ⟨_, _, h⟩
 ·exact h
 ·rw [h]; rfl
 ·rw [h]; rfl
def fd (l : List Cg) (p : ByteArray) : Option Cg := l.find? fun x => decide (x.p = p)
theorem fd_some {l : List Cg} {p : ByteArray} {x : Cg} (h : fd l p = some x) : x ∈ l ∧ x.p = p := ⟨List.mem_of_find?_eq_some h, by simpa using List.find?_some h⟩
section
variable {α β : Type} {f : α → ByteArray} {g : β → ByteArray}
end
/-! ### composing -/
def hC (a : List Cg) (y : Cg) : Option Cg := match fd a y.p with
 | none => some y
 | some _ => none
def fe (s : List En) (p : ByteArray) : Option En := s.find? fun x => decide (x.p = p)
def dg? (s : List En) (p : ByteArray) : List Int := match fe s p with
 | none => zed
 | some x => x.d
def hA (x : Cg) : Option En := if x.n = zed then none else some ⟨x.p, x.n⟩
end Go.Proofs.YtecllfbadciaoaaGreatDoor
namespace Go.Proofs.YtecllfbadciaoaaGreatDoor
open Go.RowKit
def D32 (l : List Int) : Prop := l.length = 32 ∧ ∀ x ∈ l, 0 ≤ x ∧ x < 256
theorem D32.zed : D32 zed := ⟨rfl, fun x hx => by rw [List.eq_of_mem_replicate hx]; omega⟩
theorem infoD : (Tryz.prog.info? 80).map (·.size) = some 32 := by kernel_rfl
def dgA (d : List Int) : Array Value := (d.map (Value.int .u8)).toArray
theorem getD_mapD (L : List Int) (i : Nat) (h : i < L.length) : (L.map (Value.int .u8))[i]? = some (.int .u8 (L.getD i 0)) := by
 rw [List.getElem?_map, List.getElem?_eq_getElem h, List.getD_eq_getElem?_getD, List.getElem?_eq_getElem h]; rfl
theorem part_byteD (L : List Int) (i : Nat) (h : i < L.length) (w : World) : (part 5 (dgA L) (i * 1)).run Tryz.prog w = .ok (.int .u8 (L.getD i 0)) w := by
 have hu : (underlying 5).run Tryz.prog w = .ok (.int .u8) w := run_underlying Tryz.underlying5 w
 have hg := getD_mapD L i h
 simp [part, isAgg, hu, dgA, hg]
theorem eq_byteD (d : Nat) (a b : Int) (w : World) : (Op.equalIn (d + 1) 5 (.int .u8 a) (.int .u8 b)).run Tryz.prog w = .ok (a == b) w := by
 simp [Op.equalIn, run_underlying Tryz.underlying5]
theorem eq_itemsD (d : Nat) (X Y : List Int) : ∀ (is : List Nat) (w : World), (∀ i ∈ is, i < X.length ∧ i < Y.length) →
 (Op.eqItems (d + 1) 5 1 (dgA X) (dgA Y) is).run Tryz.prog w = .ok (is.all fun i => X.getD i 0 == Y.getD i 0) w
 | [], w, _ => by simp [Op.eqItems]
 | i :: is, w, h => by
   have hi := h i (by simp)
   have ih := eq_itemsD d X Y is w (fun j hj => h j (by simp [hj]))
   simp only [Op.eqItems, Sem.run_bind, part_byteD X i hi.1, part_byteD Y i hi.2, eq_byteD, Result.andThen_ok]
   cases hx : (X.getD i 0 == Y.getD i 0)
   ·rw [List.all_cons, hx]; simp
   ·rw [List.all_cons, hx]; simpa using ih
theorem all_range_eqD (X Y : List Int) (h : X.length = Y.length) : ((List.range X.length).all fun i => X.getD i 0 == Y.getD i 0) = decide (X = Y) := by
 by_cases e : X = Y
 ·subst e; simp
 ·simp only [e, decide_false]
  rw [Bool.eq_false_iff]
  intro ha
  refine e (List.ext_getElem h fun i h1 h2 => ?_)
  have := List.all_eq_true.1 ha i (by simpa using h1)
  simpa [List.getD_eq_getElem?_getD, List.getElem?_eq_getElem h1, List.getElem?_eq_getElem h2] using this
theorem eq_digD (dep : Nat) (X Y : List Int) (hX : X.length = 32) (hY : Y.length = 32) (w : World) : (Op.equalIn (dep + 2) 80 (.agg (dgA X)) (.agg (dgA Y))).run Tryz.prog w = .ok (decide (X = Y)) w := by
 have hc : Tryz.prog.cellsOf 5 = 1 := by kernel_rfl
 obtain ⟨i, hi⟩ : ∃ i, Tryz.prog.info? 5 = some i := Option.isSome_iff_exists.1 (by kernel_rfl)
 have h := run_equalIn_array (P := Tryz.prog) w (dep + 1) (dgA X) (dgA Y) Tryz.underlying80 hi
 rw [hc] at h
 have e := eq_itemsD dep X Y (List.range 32) w (fun j hj => by rw [hX, hY]; simpa using hj)
 have r := all_range_eqD X Y (by omega)
 rw [hX] at r
 rw [r] at e
 rw [e] at h
 exact h
theorem eqlD (X Y : List Int) (hX : X.length = 32) (hY : Y.length = 32) (w : World) :
 (binOp .eql 80 (.agg (X.map (Value.int .u8)).toArray) (.agg (Y.map (Value.int .u8)).toArray)).run Tryz.prog w = .ok (.bool (decide (X = Y))) w := by
 have h : (Op.equalIn 10000 80 (.agg (X.map (Value.int .u8)).toArray) (.agg (Y.map (Value.int .u8)).toArray)).run Tryz.prog w = .ok (decide (X = Y)) w := eq_digD 9998 X Y hX hY w
 simp only [binOp]
 simp [Op.equal, Op.maxDepth, h]
theorem neqD (X Y : List Int) (hX : X.length = 32) (hY : Y.length = 32) (w : World) :
 (binOp .neq 80 (.agg (X.map (Value.int .u8)).toArray) (.agg (Y.map (Value.int .u8)).toArray)).run Tryz.prog w = .ok (.bool (!decide (X = Y))) w := by
 have h : (Op.equalIn 10000 80 (.agg (X.map (Value.int .u8)).toArray) (.agg (Y.map (Value.int .u8)).toArray)).run Tryz.prog w = .ok (decide (X = Y)) w := eq_digD 9998 X Y hX hY w
 simp only [binOp]
 simp [Op.equal, Op.maxDepth, h]
theorem eqlZ (X : List Int) (hX : X.length = 32) (w : World) : (binOp .eql 80 (.agg (X.map (Value.int .u8)).toArray) (.agg #[Value.int .u8 0, Value.int .u8 0, Value.int .u8 0, Value.int .u8 0, Value.int .u8 0, Value.int .u8 0, Value.int .u8 0, Value.int .u8 0, Value.int .u8 0, Value.int .u8 0, Value.int .u8 0, Value.int .u8 0, Value.int .u8 0, Value.int .u8 0, Value.int .u8 0, Value.int .u8 0, Value.int .u8 0, Value.int .u8 0, Value.int .u8 0, Value.int .u8 0, Value.int .u8 0, Value.int .u8 0, Value.int .u8 0, Value.int .u8 0, Value.int .u8 0, Value.int .u8 0, Value.int .u8 0, Value.int .u8 0, Value.int .u8 0, Value.int .u8 0, Value.int .u8 0, Value.int .u8 0])).run Tryz.prog w = .ok (.bool (decide (X = zed))) w := eqlD X zed hX rfl w
theorem neqZ (X : List Int) (hX : X.length = 32) (w : World) : (binOp .neq 80 (.agg (X.map (Value.int .u8)).toArray) (.agg #[Value.int .u8 0, Value.int .u8 0, Value.int .u8 0, Value.int .u8 0, Value.int .u8 0, Value.int .u8 0, Value.int .u8 0, Value.int .u8 0, Value.int .u8 0, Value.int .u8 0, Value.int .u8 0, Value.int .u8 0, Value.int .u8 0, Value.int .u8 0, Value.int .u8 0, Value.int .u8 0, Value.int .u8 0, Value.int .u8 0, Value.int .u8 0, Value.int .u8 0, Value.int .u8 0, Value.int .u8 0, Value.int .u8 0, Value.int .u8 0, Value.int .u8 0, Value.int .u8 0, Value.int .u8 0, Value.int .u8 0, Value.int .u8 0, Value.int .u8 0, Value.int .u8 0, Value.int .u8 0])).run Tryz.prog w = .ok (.bool (!decide (X = zed))) w := neqD X zed hX rfl w
theorem range_row {w : World} {b t : Nat} {fz : Nat × Nat} {cs pre sub post : List Value} {o : Nat} (h : w.heap[b]? = some (.cells cs.toArray t fz)) (e : cs = pre ++ (sub ++ post)) (ho : o = pre.length) : w.rangeAt b o sub := by
 intro j v hv
 have hj := (List.getElem?_eq_some_iff.1 hv).1
 show w.cell? ⟨b, o + j, none⟩ = some v
 rw [cell_of_row w b (o + j) cs.toArray t fz h, e, ho, List.getElem?_toArray, List.getElem?_append_right (by omega), Nat.add_sub_cancel_left, List.getElem?_append_left hj, hv]
theorem info_d {d : List Int} (h : D32 d) : (Tryz.prog.info? 80).map (·.size) = some (d.map (Value.int .u8)).length := by rw [List.length_map, h.1]; exact infoD
theorem setRow_new (w : World) (old cells : Array Value) (t : TypeId) : (w.alloc (.cells old t)).setRow w.heap.size cells = w.alloc (.cells cells t) := by
 unfold World.setRow World.alloc
 congr 1
 apply Array.ext
 ·simp
 ·intro i h1 h2
  rw [Array.getElem_modify]
  by_cases e : w.heap.size = i
  ·subst e; simp
  ·have hi : i < w.heap.size := by simp at h2; omega
   simp [e, Array.getElem_push, hi]
/-! ### structs put together -/
theorem fold_put (off : Nat) : ∀ (vs pre old post : List Value) (k : Nat), off + k = pre.length → old.length = vs.length →
 (vs.zipIdx k).foldl (fun cs (x : Value × Nat) => cs.setIfInBounds (off + x.2) x.1) (pre ++ (old ++ post)).toArray = (pre ++ (vs ++ post)).toArray
 | [], pre, old, post, k, _, ho => by
   have : old = [] := List.eq_nil_of_length_eq_zero ho
   subst this; rfl
 | v :: vs, pre, o :: old, post, k, hk, ho => by
   rw [List.zipIdx_cons, List.foldl_cons]
   have h1 : (pre ++ (o :: old ++ post)).toArray.setIfInBounds (off + k) v = ((pre ++ [v]) ++ (old ++ post)).toArray := by
    rw [List.setIfInBounds_toArray, hk, List.cons_append, List.set_append_right _ _ (Nat.le_refl _), Nat.sub_self, List.set_cons_zero, List.append_assoc]; rfl
   show List.foldl _ ((pre ++ (o :: old ++ post)).toArray.setIfInBounds (off + k) v) _ = _
   rw [h1, fold_put off vs (pre ++ [v]) old post (k + 1) (by rw [List.length_append]; show off + (k + 1) = pre.length + 1; omega) (by simpa using ho), List.append_assoc]; rfl
theorem fill_put {place : Nat → Option (Nat × Nat)} {i off sz : Nat} {v : Value} {rest : List (Nat × Value)} (vs pre old post : List Value) (hp : place i = some (off, sz)) (hv : v.cells = vs.toArray) (hl : vs.length = sz) (ho : off = pre.length) (hold : old.length = sz) :
 Instr.fill place (pre ++ (old ++ post)).toArray ((i, v) :: rest) = Instr.fill place (pre ++ (vs ++ post)).toArray rest := by
 rw [Instr.fill, hp]
 show (if v.cells.size ≠ sz || off + v.cells.size > (pre ++ (old ++ post)).toArray.size then none else _) = _
 rw [if_neg (by rw [hv]; simp; omega)]
 congr 1
 rw [hv, ← Array.foldl_toList, Array.toList_zipIdx]
 exact fold_put off vs pre old post 0 (by omega) (by omega)
theorem built_fill {P : Program} {t : TypeId} {fields : Array Field} {z : Value} {places : List (Nat × Nat)} {parts : List (Nat × Value)} (hi : (P.info? t).map (·.zero) = some (some z)) (hu : P.underlying t = some (.struct fields))
 (hp : fields.toList.mapM (fun f => (P.info? f.type).map fun i => (f.offset, i.size)) = some places) : P.built t parts = Instr.fill (places.toArray[·]?) z.cells parts := by
 cases h : P.info? t with
 | none => rw [h] at hi; cases hi
 | some it =>
   rw [h] at hi
   have hz : it.zero = some z := by injection hi
   unfold Program.built
   simp only [h, hu, hz, hp]
theorem str_cells (s : ByteArray) : (Value.string s).cells = [Value.string s].toArray := rfl
theorem slice_one (w : World) (t e : TypeId) (cs : List Value) (ie : TypeInfo) (z : Value) (hu : Tryz.prog.underlying t = some (.slice e)) (hie : Tryz.prog.info? e = some ie) (hz : ie.zero = some z) (hs : ie.size = cs.length) (h0 : 0 < cs.length) (h1 : cs.length ≤ 1000) :
 (Instr.buildSlice t 1 #[(0, .agg cs.toArray)]).run Tryz.prog w = .ok (.slice (some ⟨w.heap.size, 0, none⟩) 1 1) (w.alloc (.cells cs.toArray e)) := by
 refine run_buildSlice w t e 1 _ _ ie z hu hie hz (by rw [hs]; omega) (by rw [hs]; omega) ?_
 obtain ⟨old, hold⟩ : ∃ old : List Value, old = ((Array.range (1 * ie.size)).map (z.cells[· % z.cells.size]!)).toList := ⟨_, rfl⟩
 have hl : old.length = ie.size := by rw [hold]; simp
 have e1 : (Array.range (1 * ie.size)).map (z.cells[· % z.cells.size]!) = ([] ++ (old ++ [])).toArray := by rw [hold, List.nil_append, List.append_nil]
 rw [e1]
 rw [fill_put cs [] old [] (sz := ie.size) (off := 0 * ie.size) rfl rfl hs.symm (by simp) hl]
 simp [Instr.fill]
end Go.Proofs.YtecllfbadciaoaaGreatDoor
