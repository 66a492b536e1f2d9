/-
  Digests as values: two of them compared, read and put into structs and slices (condition: digests have 32 bytes).
-/
import Derived.Test.YtkeieacmboidoaaDoorDgZ
import Derived.Test.YtkeieacmboidoaaDoorProg
import Derived.WalkKit
import Derived.WalkSpells
import Derived.WalkLawsBesides
import Derived.ChangeKeysEq
import Derived.Deep.MidRow
import Derived.Laws.Tables
import Derived.Great.BuildSlice
import Derived.Laws.CopyOwn
import Derived.Below
import Derived.Lib.Hide
namespace Go.Proofs.YtkeieacmboidoaaDoor
open Go.RowKit


/-- 32 bytes -/
def D32 (l : List Int) : Prop := l.length = 32 ∧ ∀ x ∈ l, 0 ≤ x ∧ x < 256
theorem D32.zed : D32 zed := ⟨rfl, fun x hx => by rw [List.eq_of_mem_replicate hx]; omega⟩
theorem infoD : (Tryd.prog.info? 37).map (·.size) = some 32 := by kernel_rfl
/-- a digest as an array's value -/
def dgA (d : List Int) : Array Value := (d.map (Value.int .u8)).toArray

theorem getD_mapD (L : List Int) (i : Nat) (h : i < L.length) : (L.map (Value.int .u8))[i]? = some (.int .u8 (L.getD i 0)) := by
  rw [List.getElem?_map, List.getElem?_eq_getElem h, List.getD_eq_getElem?_getD, List.getElem?_eq_getElem h]; rfl
theorem part_byteD (L : List Int) (i : Nat) (h : i < L.length) (w : World) : (part 5 (dgA L) (i * 1)).run Tryd.prog w = .ok (.int .u8 (L.getD i 0)) w := by
  have hu : (underlying 5).run Tryd.prog w = .ok (.int .u8) w := run_underlying Tryd.underlying5 w
  have hg := getD_mapD L i h
  simp [part, isAgg, hu, dgA, hg]
theorem eq_byteD (d : Nat) (a b : Int) (w : World) : (Op.equalIn (d + 1) 5 (.int .u8 a) (.int .u8 b)).run Tryd.prog w = .ok (a == b) w := by
  simp [Op.equalIn, run_underlying Tryd.underlying5]
theorem eq_itemsD (d : Nat) (X Y : List Int) : ∀ (is : List Nat) (w : World), (∀ i ∈ is, i < X.length ∧ i < Y.length) →
    (Op.eqItems (d + 1) 5 1 (dgA X) (dgA Y) is).run Tryd.prog w = .ok (is.all fun i => X.getD i 0 == Y.getD i 0) w
  | [], w, _ => by simp [Op.eqItems]
  | i :: is, w, h => by
    have hi := h i (by simp)
    have ih := eq_itemsD d X Y is w (fun j hj => h j (by simp [hj]))
    simp only [Op.eqItems, Sem.run_bind, part_byteD X i hi.1, part_byteD Y i hi.2, eq_byteD, Result.andThen_ok]
    cases hx : (X.getD i 0 == Y.getD i 0)
    · rw [List.all_cons, hx]; simp
    · rw [List.all_cons, hx]; simpa using ih
theorem all_range_eqD (X Y : List Int) (h : X.length = Y.length) : ((List.range X.length).all fun i => X.getD i 0 == Y.getD i 0) = decide (X = Y) := by
  by_cases e : X = Y
  · subst e; simp
  · simp only [e, decide_false]
    rw [Bool.eq_false_iff]
    intro ha
    refine e (List.ext_getElem h fun i h1 h2 => ?_)
    have := List.all_eq_true.1 ha i (by simpa using h1)
    simpa [List.getD_eq_getElem?_getD, List.getElem?_eq_getElem h1, List.getElem?_eq_getElem h2] using this
theorem eq_digD (dep : Nat) (X Y : List Int) (hX : X.length = 32) (hY : Y.length = 32) (w : World) : (Op.equalIn (dep + 2) 37 (.agg (dgA X)) (.agg (dgA Y))).run Tryd.prog w = .ok (decide (X = Y)) w := by
  have hc : Tryd.prog.cellsOf 5 = 1 := by kernel_rfl
  obtain ⟨i, hi⟩ : ∃ i, Tryd.prog.info? 5 = some i := Option.isSome_iff_exists.1 (by kernel_rfl)
  have h := run_equalIn_array (P := Tryd.prog) w (dep + 1) (dgA X) (dgA Y) Tryd.underlying37 hi
  rw [hc] at h
  have e := eq_itemsD dep X Y (List.range 32) w (fun j hj => by rw [hX, hY]; simpa using hj)
  have r := all_range_eqD X Y (by omega)
  rw [hX] at r
  rw [r] at e
  rw [e] at h
  exact h
/-- two digests compared -/
theorem eqlD (X Y : List Int) (hX : X.length = 32) (hY : Y.length = 32) (w : World) :
    (binOp .eql 37 (.agg (X.map (Value.int .u8)).toArray) (.agg (Y.map (Value.int .u8)).toArray)).run Tryd.prog w = .ok (.bool (decide (X = Y))) w := by
  have h : (Op.equalIn 10000 37 (.agg (X.map (Value.int .u8)).toArray) (.agg (Y.map (Value.int .u8)).toArray)).run Tryd.prog w = .ok (decide (X = Y)) w := eq_digD 9998 X Y hX hY w
  simp only [binOp]
  simp [Op.equal, Op.maxDepth, h]
theorem neqD (X Y : List Int) (hX : X.length = 32) (hY : Y.length = 32) (w : World) :
    (binOp .neq 37 (.agg (X.map (Value.int .u8)).toArray) (.agg (Y.map (Value.int .u8)).toArray)).run Tryd.prog w = .ok (.bool (!decide (X = Y))) w := by
  have h : (Op.equalIn 10000 37 (.agg (X.map (Value.int .u8)).toArray) (.agg (Y.map (Value.int .u8)).toArray)).run Tryd.prog w = .ok (decide (X = Y)) w := eq_digD 9998 X Y hX hY w
  simp only [binOp]
  simp [Op.equal, Op.maxDepth, h]
/-- the zero digest as an array's value -/
def zA : Array Value := (zed.map (Value.int .u8)).toArray
theorem buildD (w : World) : (Instr.build 37 #[]).run Tryd.prog w = .ok (.agg zA) w := by kernel_rfl
theorem eqlZ (X : List Int) (hX : X.length = 32) (w : World) : (binOp .eql 37 (.agg (X.map (Value.int .u8)).toArray) (.agg #[Value.int .u8 0, Value.int .u8 0, Value.int .u8 0, Value.int .u8 0, Value.int .u8 0, Value.int .u8 0, Value.int .u8 0, Value.int .u8 0, Value.int .u8 0, Value.int .u8 0, Value.int .u8 0, Value.int .u8 0, Value.int .u8 0, Value.int .u8 0, Value.int .u8 0, Value.int .u8 0, Value.int .u8 0, Value.int .u8 0, Value.int .u8 0, Value.int .u8 0, Value.int .u8 0, Value.int .u8 0, Value.int .u8 0, Value.int .u8 0, Value.int .u8 0, Value.int .u8 0, Value.int .u8 0, Value.int .u8 0, Value.int .u8 0, Value.int .u8 0, Value.int .u8 0, Value.int .u8 0])).run Tryd.prog w = .ok (.bool (decide (X = zed))) w := eqlD X zed hX rfl w
theorem neqZ (X : List Int) (hX : X.length = 32) (w : World) : (binOp .neq 37 (.agg (X.map (Value.int .u8)).toArray) (.agg #[Value.int .u8 0, Value.int .u8 0, Value.int .u8 0, Value.int .u8 0, Value.int .u8 0, Value.int .u8 0, Value.int .u8 0, Value.int .u8 0, Value.int .u8 0, Value.int .u8 0, Value.int .u8 0, Value.int .u8 0, Value.int .u8 0, Value.int .u8 0, Value.int .u8 0, Value.int .u8 0, Value.int .u8 0, Value.int .u8 0, Value.int .u8 0, Value.int .u8 0, Value.int .u8 0, Value.int .u8 0, Value.int .u8 0, Value.int .u8 0, Value.int .u8 0, Value.int .u8 0, Value.int .u8 0, Value.int .u8 0, Value.int .u8 0, Value.int .u8 0, Value.int .u8 0, Value.int .u8 0])).run Tryd.prog w = .ok (.bool (!decide (X = zed))) w := neqD X zed hX rfl w

/-- what stands in a row, from a place on -/
theorem range_row {w : World} {b t : Nat} {fz : Nat × Nat} {cs pre sub post : List Value} {o : Nat} (h : w.heap[b]? = some (.cells cs.toArray t fz)) (e : cs = pre ++ (sub ++ post)) (ho : o = pre.length) : w.rangeAt b o sub := by
  intro j v hv
  have hj := (List.getElem?_eq_some_iff.1 hv).1
  show w.cell? ⟨b, o + j, none⟩ = some v
  rw [cell_of_row w b (o + j) cs.toArray t fz h, e, ho, List.getElem?_toArray, List.getElem?_append_right (by omega), Nat.add_sub_cancel_left, List.getElem?_append_left hj, hv]
theorem info_d {d : List Int} (h : D32 d) : (Tryd.prog.info? 37).map (·.size) = some (d.map (Value.int .u8)).length := by rw [List.length_map, h.1]; exact infoD
theorem setRow_new (w : World) (old cells : Array Value) (t : TypeId) : (w.alloc (.cells old t)).setRow w.heap.size cells = w.alloc (.cells cells t) := by
  unfold World.setRow World.alloc
  congr 1
  apply Array.ext
  · simp
  · intro i h1 h2
    rw [Array.getElem_modify]
    by_cases e : w.heap.size = i
    · subst e; simp
    · have hi : i < w.heap.size := by simp at h2; omega
      simp [e, Array.getElem_push, hi]

/-! ### structs put together -/
theorem fold_put (off : Nat) : ∀ (vs pre old post : List Value) (k : Nat), off + k = pre.length → old.length = vs.length →
    (vs.zipIdx k).foldl (fun cs (x : Value × Nat) => cs.setIfInBounds (off + x.2) x.1) (pre ++ (old ++ post)).toArray = (pre ++ (vs ++ post)).toArray
  | [], pre, old, post, k, _, ho => by
    have : old = [] := List.eq_nil_of_length_eq_zero ho
    subst this; rfl
  | v :: vs, pre, o :: old, post, k, hk, ho => by
    rw [List.zipIdx_cons, List.foldl_cons]
    have h1 : (pre ++ (o :: old ++ post)).toArray.setIfInBounds (off + k) v = ((pre ++ [v]) ++ (old ++ post)).toArray := by
      rw [List.setIfInBounds_toArray, hk, List.cons_append, List.set_append_right _ _ (Nat.le_refl _), Nat.sub_self, List.set_cons_zero, List.append_assoc]; rfl
    show List.foldl _ ((pre ++ (o :: old ++ post)).toArray.setIfInBounds (off + k) v) _ = _
    rw [h1, fold_put off vs (pre ++ [v]) old post (k + 1) (by rw [List.length_append]; show off + (k + 1) = pre.length + 1; omega) (by simpa using ho), List.append_assoc]; rfl
theorem fill_put {place : Nat → Option (Nat × Nat)} {i off sz : Nat} {v : Value} {rest : List (Nat × Value)} (vs pre old post : List Value) (hp : place i = some (off, sz)) (hv : v.cells = vs.toArray) (hl : vs.length = sz) (ho : off = pre.length) (hold : old.length = sz) :
    Instr.fill place (pre ++ (old ++ post)).toArray ((i, v) :: rest) = Instr.fill place (pre ++ (vs ++ post)).toArray rest := by
  rw [Instr.fill, hp]
  show (if v.cells.size ≠ sz || off + v.cells.size > (pre ++ (old ++ post)).toArray.size then none else _) = _
  rw [if_neg (by rw [hv]; simp; omega)]
  congr 1
  rw [hv, ← Array.foldl_toList, Array.toList_zipIdx]
  exact fold_put off vs pre old post 0 (by omega) (by omega)
theorem built_fill {P : Program} {t : TypeId} {fields : Array Field} {z : Value} {places : List (Nat × Nat)} {parts : List (Nat × Value)} (hi : (P.info? t).map (·.zero) = some (some z)) (hu : P.underlying t = some (.struct fields))
    (hp : fields.toList.mapM (fun f => (P.info? f.type).map fun i => (f.offset, i.size)) = some places) : P.built t parts = Instr.fill (places.toArray[·]?) z.cells parts := by
  cases h : P.info? t with
  | none => rw [h] at hi; cases hi
  | some it =>
    rw [h] at hi
    have hz : it.zero = some z := by injection hi
    unfold Program.built
    simp only [h, hu, hz, hp]
theorem zed_cells : zed.map (Value.int .u8) = List.replicate 32 (.int .u8 0) := rfl
theorem agg_cells (l : List Value) : (Value.agg l.toArray).cells = l.toArray := rfl
theorem str_cells (s : ByteArray) : (Value.string s).cells = [Value.string s].toArray := rfl
/-- a slice of one struct -/
theorem slice_one (w : World) (t e : TypeId) (cs : List Value) (ie : TypeInfo) (z : Value) (hu : Tryd.prog.underlying t = some (.slice e)) (hie : Tryd.prog.info? e = some ie) (hz : ie.zero = some z) (hs : ie.size = cs.length) (h0 : 0 < cs.length) (h1 : cs.length ≤ 1000) :
    (Instr.buildSlice t 1 #[(0, .agg cs.toArray)]).run Tryd.prog w = .ok (.slice (some ⟨w.heap.size, 0, none⟩) 1 1) (w.alloc (.cells cs.toArray e)) := by
  refine run_buildSlice w t e 1 _ _ ie z hu hie hz (by rw [hs]; omega) (by rw [hs]; omega) ?_
  obtain ⟨old, hold⟩ : ∃ old : List Value, old = ((Array.range (1 * ie.size)).map (z.cells[· % z.cells.size]!)).toList := ⟨_, rfl⟩
  have hl : old.length = ie.size := by rw [hold]; simp
  have e1 : (Array.range (1 * ie.size)).map (z.cells[· % z.cells.size]!) = ([] ++ (old ++ [])).toArray := by rw [hold, List.nil_append, List.append_nil]
  rw [e1]
  rw [fill_put cs [] old [] (sz := ie.size) (off := 0 * ie.size) rfl rfl hs.symm (by simp) hl]
  simp [Instr.fill]
end Go.Proofs.YtkeieacmboidoaaDoor
