/-
  Laws for the statements' walks: two arrays of bytes compared, a slice of bytes appended to one of the call's own (conditions in each theorem).
-/
import Derived.Test.YtmafefdchglpbaaDoorShaK
import Derived.ChangeKeysEq
import Derived.Laws.AppendOwnNone
namespace Go.Proofs.YtmafefdchglpbaaDoor
open Go.RowKit

theorem part_byte (L : List Int) (i : Nat) (h : i < L.length) (w : World) : (part 5 (L.map (Value.int .u8)).toArray (i * 1)).run Tryd.prog w = .ok (.int .u8 (L.getD i 0)) w := by
  have hu : (underlying 5).run Tryd.prog w = .ok (.int .u8) w := run_underlying Tryd.underlying5 w
  have hg := getD_map L (Value.int .u8) i 0 h
  simp [part, isAgg, hu, hg]
theorem eq_byte (d : Nat) (a b : Int) (w : World) : (Op.equalIn (d + 1) 5 (.int .u8 a) (.int .u8 b)).run Tryd.prog w = .ok (a == b) w := by
  simp [Op.equalIn, run_underlying Tryd.underlying5]
theorem eq_items (d : Nat) (X Y : List Int) : ∀ (is : List Nat) (w : World), (∀ i ∈ is, i < X.length ∧ i < Y.length) →
    (Op.eqItems (d + 1) 5 1 (X.map (Value.int .u8)).toArray (Y.map (Value.int .u8)).toArray is).run Tryd.prog w = .ok (is.all fun i => X.getD i 0 == Y.getD i 0) w
  | [], w, _ => by simp [Op.eqItems]
  | i :: is, w, h => by
    have hi := h i (by simp)
    have ih := eq_items d X Y is w (fun j hj => h j (by simp [hj]))
    simp only [Op.eqItems, Sem.run_bind, part_byte X i hi.1, part_byte Y i hi.2, eq_byte, Result.andThen_ok]
    cases hx : (X.getD i 0 == Y.getD i 0)
    · rw [List.all_cons, hx]; simp
    · rw [List.all_cons, hx]; simpa using ih
theorem all_range_eq (X Y : List Int) (h : X.length = Y.length) : ((List.range X.length).all fun i => X.getD i 0 == Y.getD i 0) = decide (X = Y) := by
  by_cases e : X = Y
  · subst e; simp
  · simp only [e, decide_false]
    rw [Bool.eq_false_iff]
    intro ha
    refine e (List.ext_getElem h fun i h1 h2 => ?_)
    have := List.all_eq_true.1 ha i (by simpa using h1)
    simpa [List.getD_eq_getElem?_getD, List.getElem?_eq_getElem h1, List.getElem?_eq_getElem h2] using this

/-- two digests compared -/
theorem eql_digest (X Y : List Int) (hX : X.length = 32) (hY : Y.length = 32) (w : World) :
    (binOp .eql 23 (.agg (X.map (Value.int .u8)).toArray) (.agg (Y.map (Value.int .u8)).toArray)).run Tryd.prog w = .ok (.bool (decide (X = Y))) w := by
  have hc : Tryd.prog.cellsOf 5 = 1 := by kernel_rfl
  obtain ⟨i, hi⟩ : ∃ i, Tryd.prog.info? 5 = some i := Option.isSome_iff_exists.1 (by kernel_rfl)
  have h := run_equalIn_array (P := Tryd.prog) w 9999 (X.map (Value.int .u8)).toArray (Y.map (Value.int .u8)).toArray Tryd.underlying23 hi
  rw [hc] at h
  have e := eq_items 9998 X Y (List.range 32) w (fun j hj => by rw [hX, hY]; simpa using hj)
  have r := all_range_eq X Y (by omega)
  rw [hX] at r
  rw [r] at e
  rw [e] at h
  simp only [binOp]
  simp [Op.equal, Op.maxDepth, h]
theorem eql_half (X Y : List Int) (hX : X.length = 16) (hY : Y.length = 16) (w : World) :
    (binOp .eql 25 (.agg (X.map (Value.int .u8)).toArray) (.agg (Y.map (Value.int .u8)).toArray)).run Tryd.prog w = .ok (.bool (decide (X = Y))) w := by
  have hc : Tryd.prog.cellsOf 5 = 1 := by kernel_rfl
  obtain ⟨i, hi⟩ : ∃ i, Tryd.prog.info? 5 = some i := Option.isSome_iff_exists.1 (by kernel_rfl)
  have h := run_equalIn_array (P := Tryd.prog) w 9999 (X.map (Value.int .u8)).toArray (Y.map (Value.int .u8)).toArray Tryd.underlying25 hi
  rw [hc] at h
  have e := eq_items 9998 X Y (List.range 16) w (fun j hj => by rw [hX, hY]; simpa using hj)
  have r := all_range_eq X Y (by omega)
  rw [hX] at r
  rw [r] at e
  rw [e] at h
  simp only [binOp]
  simp [Op.equal, Op.maxDepth, h]
/-- the value dg compared with itself -/
theorem eql_dg (l : List Int) (w : World) : (binOp .eql 23 (.agg (dg l)) (.agg (dg l))).run Tryd.prog w = .ok (.bool true) w := by
  have hl : (dbytes (sha l).list).length = 32 := by simp [dbytes_length, St.list_length]
  have := eql_digest _ _ hl hl w
  simpa [dg] using this
theorem eql_hf (l : List Int) (w : World) : (binOp .eql 25 (.agg (hf l)) (.agg (hf l))).run Tryd.prog w = .ok (.bool true) w := by
  have hl : ((dbytes (sha l).list).take 16).length = 16 := by simp [dbytes_length, St.list_length]
  have := eql_half _ _ hl hl w
  simpa [hf] using this

/-- append(own, src...), both slices of bytes -/
theorem wpList_append_src {P : Program} {w : World} {ops : Array Oper} {rest : List Oper} {o : Oper} {a : Act} {Q : Exit → Act → World → Prop} (hgd : o.guard = none) (s x : Operand) (t e : TypeId)
    (ho : o.op = .call { callee := .builtin .append, args := #[s, x], argTypes := #[t, t] }) (ht : P.underlying t = some (.slice e)) (hi : (P.info? e).map (fun i => (i.zero, i.size, i.bytes)) = some (some (.int .u8 0), 1, 1))
    (base : Nat) (v : Value) (xs : List Int) (hs : a.eval s = v) (hown : w.ownsRow base e 1 v xs.length (xs.map (Value.int .u8)))
    (sp : Option Addr) (c B : Nat) (b : List Int) (hx : a.eval x = .slice sp b.length c) (hsrc : Src w B sp b.length c b) (hnil : sp = none → c = 0)
    (hlen : xs.length + b.length ≤ 1099511627776) (hbase : base ≤ w.heap.size)
    (h : ∀ v' w', Hid (w'.ownsRow base e 1 v' (xs ++ b).length ((xs ++ b).map (Value.int .u8))) → w.grownBy w' v.ownBlock → (v' = .slice none 0 0 ↔ v = .slice none 0 0 ∧ b.length = 0) → wpList P ops Q rest (a.put o.dst v') w') : wpList P ops Q (o :: rest) a w := by
  obtain ⟨i0, hi0, hz0, hz1, hz2⟩ := info_parts hi
  cases sp with
  | none =>
    have hb : b.length = 0 := by
      by_cases h0 : 0 < b.length
      · obtain ⟨_, _, e, _⟩ := hsrc.cells h0; cases e
      · omega
    have hbn : b = [] := List.eq_nil_of_length_eq_zero hb
    subst hbn
    rw [hnil rfl] at hx
    refine wpList_append_own_none hgd s x t ho base e i0 1 ht hi0 v xs.length _ hs hown hx ?_
    exact h v w (by show World.ownsRow _ _ _ _ _ _ _; simpa using hown) (World.grownBy.refl _ _) (by simp)
  | some ad =>
    refine wpList_append_own w hgd s x t ho base e i0 (.int .u8 0) 1 1 ht hi0 hz0 hz1 hz2 rfl (by decide) v xs.length _ hs hown ad b.length c (b.map (Value.int .u8)) hx (by simp) ?_ (one_map _ _) (by unfold maxLen; omega) (by omega) hbase ?_
    · intro j u hj
      have hjb : j < b.length := by have := (List.getElem?_eq_some_iff.1 hj).1; simpa using this
      obtain ⟨bb, off, ead, _, _, hc⟩ := hsrc.cells (by omega)
      injection ead with ead; subst ead
      rw [getD_map _ _ _ 0 hjb] at hj
      injection hj with hj
      rw [Addr.add_mid, hc j hjb, hj]
    · intro v' w' h1 h2 h3
      exact h v' w' (by show World.ownsRow _ _ _ _ _ _ _; rw [List.length_append, List.map_append]; exact h1) h2 h3

/-- what the call owns, as a source -/
theorem src_of_own {w : World} {base e : Nat} {v : Value} {xs : List Int} (h : w.ownsRow base e 1 v xs.length (xs.map (Value.int .u8))) (hx : Byt xs) : ∃ sp cap, v = .slice sp xs.length cap ∧ Src w w.heap.size sp xs.length cap xs ∧ (sp = none → cap = 0) := by
  obtain ⟨_, h | ⟨g, cap, cur, rfl, _, hg, hle, _, hsz, htk⟩⟩ := h
  · obtain ⟨rfl, h0⟩ := h
    exact ⟨none, 0, by rw [h0], ⟨rfl, hx, fun hn => by omega⟩, fun _ => rfl⟩
  · refine ⟨_, cap, rfl, ⟨rfl, hx, fun hn => ⟨g, 0, rfl, (Array.getElem?_eq_some_iff.1 hg).1, hle, fun j hj => ?_⟩⟩, fun hh => by cases hh⟩
    rw [Nat.zero_add, cell_of_row w g j cur e _ hg]
    have h1 : (cur.toList.take (xs.length * 1))[j]? = some (.int .u8 (xs.getD j 0)) := by rw [htk]; exact getD_map _ _ _ 0 hj
    rw [List.getElem?_take, if_pos (by omega)] at h1
    simpa using h1
theorem Tryd.info5a : (Tryd.prog.info? 5).map (fun i => (i.zero, i.size, i.bytes)) = some (some (.int .u8 0), 1, 1) := by kernel_rfl
end Go.Proofs.YtmafefdchglpbaaDoor
