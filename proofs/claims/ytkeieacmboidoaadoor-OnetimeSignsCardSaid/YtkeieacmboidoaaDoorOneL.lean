/-
  One-time signatures: lists of halves in memory; rows of slices of the call's own; the walk of Combine (conditions: at most 1000 ends; the table of constants reads as it is laid).
-/
import Derived.Test.YtkeieacmboidoaaDoorOneK
namespace Go.Proofs.YtkeieacmboidoaaDoor
open Go.RowKit Go.Proofs.YtkeieacmboidoaaDoor.One

/-- a slice of halves, all below block B -/
structure HvsIn (w : World) (B : Nat) (da : Option Addr) (n cap : Nat) (l : List (List Int)) : Prop where
  len : l.length = n
  ok : ∀ x ∈ l, H16 x
  cells : 0 < n → ∃ b off, da = some ⟨b, off, none⟩ ∧ b < B ∧ n ≤ cap ∧ ∀ i, i < n → w.rangeAt b (off + i * 16) ((l.getD i []).map (Value.int .u8))
theorem HvsIn.below {w w' : World} {B B' : Nat} {da : Option Addr} {n cap : Nat} {l : List (List Int)} (h : HvsIn w B da n cap l) (hb : Below B' w w') (hB : B ≤ B') : HvsIn w' B' da n cap l :=
  ⟨h.len, h.ok, fun hn => by
    obtain ⟨b, off, e, hlt, hc, hr⟩ := h.cells hn
    exact ⟨b, off, e, by omega, hc, fun i hi => range_belowG (hr i hi) hb (by omega)⟩⟩
theorem HvsIn.at16 {w : World} {B : Nat} {da : Option Addr} {n cap : Nat} {l : List (List Int)} (h : HvsIn w B da n cap l) {i : Nat} (hi : i < n) : H16 (l.getD i []) := by
  have hl := h.len
  rw [List.getD_eq_getElem?_getD, List.getElem?_eq_getElem (by omega)]
  exact h.ok _ (List.getElem_mem _)
def rowsH (l : List (List Int)) : List Value := l.flatMap fun d => d.map (Value.int .u8)
theorem rowsH_snoc (l : List (List Int)) (x : List Int) : rowsH (l ++ [x]) = rowsH l ++ x.map (Value.int .u8) := by simp [rowsH]
def OwnHv (w : World) (base : Nat) (v : Value) (l : List (List Int)) : Prop := w.ownsRow base 23 16 v l.length (rowsH l) ∧ ∀ x ∈ l, H16 x
theorem OwnHv.nil (w : World) (base : Nat) : OwnHv w base (.slice none 0 0) [] := ⟨World.ownsRow_nil w base _ _, by simp⟩
theorem OwnHv.below {w w' : World} {base : Nat} {v : Value} {l : List (List Int)} (h : OwnHv w base v l) (hb : Below w.heap.size w w') : OwnHv w' base v l := ⟨own_belowG h.1 hb, h.2⟩
theorem OwnHv.hvs {w : World} {base : Nat} {sp : Option Addr} {n cap : Nat} {l : List (List Int)} (h : OwnHv w base (.slice sp n cap) l) (hn : l.length = n) : HvsIn w w.heap.size sp n cap l := by
  refine ⟨hn, h.2, fun h0 => ?_⟩
  have h1 := h.1
  obtain ⟨_, ⟨e, e0⟩ | ⟨g, cap', cur, e, _⟩⟩ := h.1
  · omega
  · injection e with e1 e2 e3
    subst e1
    obtain ⟨hg, hc, hr⟩ := own_rangeG (f := fun d : List Int => d.map (Value.int .u8)) h1 (fun x hx => by rw [List.length_map, (h.2 x hx).1]) hn
    refine ⟨g, 0, rfl, hg, hc, fun i hi => ?_⟩
    exact hr i _ (by rw [List.getD_eq_getElem?_getD, List.getElem?_eq_getElem (by omega)]; rfl)
theorem infoH3 : (Tryd.prog.info? 23).map (fun i => (i.zero, i.size, i.bytes)) = some (some (.agg (List.replicate 16 (Value.int .u8 0)).toArray), 16, 16) := by kernel_rfl
theorem infoH1 : (Tryd.prog.info? 23).map (·.size) = some 16 := by kernel_rfl
/-- append(own, x) -/
theorem wpList_append_hv {w : World} {ops : Array Oper} {rest : List Oper} {o : Oper} {a : Act} {Q : Exit → Act → World → Prop} (hgd : o.guard = none) (s x : Operand)
    (ho : o.op = .call { callee := .builtin .append, args := #[s, x], argTypes := #[25, 25] }) (base : Nat) (v : Value) (l : List (List Int)) (n : Nat) (hn : n = l.length) (hs : a.eval s = v) (hown : OwnHv w base v l)
    (g : Nat) (y : List Int) (hx : a.eval x = .slice (some ⟨g, 0, none⟩) 1 1) (hy : w.rangeAt g 0 (y.map (Value.int .u8))) (hok : H16 y) (hlen : n ≤ 1000000) (hbase : base ≤ w.heap.size)
    (h : ∀ sp cap w', Hid (OwnHv w' base (.slice sp (n + 1) cap) (l ++ [y])) → Hid (Below base w w') → Hid (w.grownBy w' v.ownBlock) → wpList Tryd.prog ops Q rest (a.put o.dst (.slice sp (n + 1) cap)) w') : wpList Tryd.prog ops Q (o :: rest) a w := by
  subst hn
  obtain ⟨i0, hi0, hz0, hz1, hz2⟩ := info_partsN infoH3
  refine wpList_append_own w hgd s x _ ho base _ i0 _ 16 16 Tryd.underlying25 hi0 hz0 hz1 hz2 rfl (by decide) v l.length _ hs hown.1 ⟨g, 0, none⟩ 1 1 (y.map (Value.int .u8)) hx (by rw [List.length_map, hok.1]) ?_ (one_map _ _) (by unfold maxLen; omega) (by omega) hbase ?_
  · intro j u hj
    rw [Addr.add_mid]
    exact hy j u hj
  · intro v' w' h1 h2 _
    obtain ⟨sp, cap, rfl⟩ := own_shapeG h1
    refine h sp cap w' ⟨by rw [rowsH_snoc, List.length_append]; exact h1, fun z hz => ?_⟩ ((Below.refl base w).grown h2 hbase (own_baseG hown.1)) h2
    rcases List.mem_append.1 hz with hz | hz
    · exact hown.2 z hz
    · rw [List.mem_singleton.1 hz]; exact hok
theorem zeroHv : (Tryd.prog.info? 23).map (·.zero) = some (some (.agg (List.replicate 16 (Value.int .u8 0)).toArray)) := by kernel_rfl
theorem sliceHv (w : World) (x : List Int) (hx : H16 x) : (Instr.buildSlice 25 1 #[(0, .agg (hvA x))]).run Tryd.prog w = .ok (.slice (some ⟨w.heap.size, 0, none⟩) 1 1) (w.alloc (.cells (hvA x) 23)) := by
  have h : (x.map (Value.int .u8)).length = 16 := by rw [List.length_map, hx.1]
  have hz := zeroHv
  have hi := infoH1
  cases hie : Tryd.prog.info? 23 with
  | none => rw [hie] at hi; cases hi
  | some ie =>
    rw [hie] at hi hz
    exact slice_one w _ _ _ ie _ Tryd.underlying25 hie (by injection hz) (by rw [h]; injection hi) (by omega) (by omega)

/-- a row of slices of the call's own -/
def OwnP (w : World) (base : Nat) (v : Value) (ps : List Part) : Prop := w.ownsRow base 50 1 v ps.length (ps.map Part.val)
theorem infoP3 : (Tryd.prog.info? 50).map (fun i => (i.zero, i.size, i.bytes)) = some (some (.slice none 0 0), 1, 24) := by kernel_rfl
theorem OwnP.parts {w : World} {base : Nat} {sp : Option Addr} {n cap : Nat} {ps : List Part} (h : OwnP w base (.slice sp n cap) ps) (hn : ps.length = n) (hs : ∀ q ∈ ps, Src w w.heap.size q.sp q.n q.cap q.b) : PartsIn w w.heap.size sp n ps := by
  refine ⟨hn, fun h0 => ?_, hs⟩
  obtain ⟨_, ⟨e, e0⟩ | ⟨g, c, cur, e, hg, h1, h2, h3, h4, h5⟩⟩ := h
  · omega
  · simp only [Value.slice.injEq] at e
    obtain ⟨e1, e2, e3⟩ := e
    refine ⟨g, 0, e1, (Array.getElem?_eq_some_iff.1 h1).1, fun j hj => ?_⟩
    rw [Nat.zero_add, cell_of_row w g j _ _ _ h1]
    have h6 : (ps.map Part.val)[j]? = some ps[j].val := by rw [List.getElem?_map, List.getElem?_eq_getElem hj]; rfl
    rw [← h5, List.getElem?_take, if_pos (by omega)] at h6
    simpa using h6
theorem cell_oneP (w : World) (x : Value) : ∀ j u, [x][j]? = some u → (w.alloc (.cells #[x] 50)).cell? ((⟨w.heap.size, 0, none⟩ : Addr).add j) = some u := by
  intro j u hj
  rw [Addr.add_mid, Nat.zero_add, cell_of_row _ w.heap.size j _ _ (0, 0) (heap_alloc_new w _)]
  simpa using hj
theorem wpList_append_pt {w : World} {ops : Array Oper} {rest : List Oper} {o : Oper} {a : Act} {Q : Exit → Act → World → Prop} (hgd : o.guard = none) (s x : Operand) (ho : o.op = .call { callee := .builtin .append, args := #[s, x], argTypes := #[51, 51] })
    (base : Nat) (v : Value) (ps : List Part) (hs : a.eval s = v) (hown : OwnP w base v ps) (q : Part) (hx : a.eval x = .slice (some ⟨w.heap.size, 0, none⟩) 1 1)
    (hlen : ps.length ≤ 1000000000) (hbase : base ≤ w.heap.size)
    (h : ∀ v' w', Hid (OwnP w' base v' (ps ++ [q])) → Hid (Below base w w') → Hid ((w.alloc (.cells #[q.val] 50)).grownBy w' v.ownBlock) → wpList Tryd.prog ops Q rest (a.put o.dst v') w') : wpList Tryd.prog ops Q (o :: rest) a (w.alloc (.cells #[q.val] 50)) := by
  obtain ⟨i0, hi0, hz0, hz1, hz2⟩ := info_partsN infoP3
  refine wpList_append_own _ hgd s x _ ho base _ i0 _ 1 24 Tryd.underlying51 hi0 hz0 hz1 hz2 rfl (by decide) v ps.length _ hs (World.ownsRow.alloc hown _) ⟨w.heap.size, 0, none⟩ 1 1 [q.val] hx rfl (cell_oneP w q.val) (by intro u hu; simp at hu; subst hu; rfl) (by unfold maxLen; omega) (by omega) (by simp; omega) ?_
  intro v' w' h1 h2 _
  refine h v' w' ?_ ?_ h2
  · show w'.ownsRow _ _ _ _ _ _
    rw [List.map_append, List.length_append]; exact h1
  · exact ((Below.refl base w).alloc hbase _).grown h2 (by simp; omega) (own_baseG hown)

def comB (leaf : Int) (l : List (List Int)) : List Int := hfB ([5] ++ [lb1 leaf, lb0 leaf] ++ l.flatten)
theorem comB_H16 (leaf : Int) (l : List (List Int)) : H16 (comB leaf l) := hfB_H16 _
/-- the parts that the ends are -/
def endP (eb eo : Nat) (l : List (List Int)) (i : Nat) : Part := ⟨some ⟨eb, eo + i * 16, none⟩, 16, 16, l.getD i []⟩
theorem endP_cat (eb eo : Nat) (l : List (List Int)) : cat ((List.range l.length).map (endP eb eo l)) = l.flatten := by
  unfold cat
  rw [List.map_map]
  congr 1
  apply List.ext_getElem
  · simp
  · intro i h1 h2
    simp [endP, List.getD_eq_getElem?_getD, List.getElem?_eq_getElem h2]
theorem flatten_le : ∀ (l : List (List Int)), (∀ x ∈ l, H16 x) → l.flatten.length = 16 * l.length
  | [], _ => rfl
  | x :: t, h => by
    rw [List.flatten_cons, List.length_append, (h x (by simp)).1, flatten_le t (fun y hy => h y (by simp [hy])), List.length_cons]; omega
theorem range_snocP {α : Type} (f : Nat → α) (k : Nat) : (List.range (k + 1)).map f = (List.range k).map f ++ [f k] := by rw [List.range_succ, List.map_append]; rfl
end Go.Proofs.YtkeieacmboidoaaDoor
