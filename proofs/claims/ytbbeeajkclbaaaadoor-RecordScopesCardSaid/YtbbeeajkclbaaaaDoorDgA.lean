/-
  Digests as values: two of them compared, read and put into structs and slices (condition: digests have 32 bytes).
-/
import Derived.Test.YtbbeeajkclbaaaaDoorDgZ
import Derived.Test.YtbbeeajkclbaaaaDoorProg
import Derived.WalkKit
import Derived.WalkSpells
import Derived.WalkLawsBesides
import Derived.ChangeKeysEq
import Derived.Deep.MidRow
import Derived.Laws.Tables
import Derived.Great.BuildSlice
import Derived.Laws.CopyOwn
import Derived.Below
import Derived.Lib.Hide
set_option maxRecDepth 100000
set_option maxHeartbeats 8000000
namespace Go.Proofs.YtbbeeajkclbaaaaDoor
open Go.RowKit
def D32 (l : List Int) : Prop := l.length = 32 ∧ ∀ x ∈ l, 0 ≤ x ∧ x < 256
theorem D32.zed : D32 zed := ⟨rfl, fun x hx => by rw [List.eq_of_mem_replicate hx]; omega⟩
theorem infoD : (Tryd.prog.info? 50).map (·.size) = some 32 := by kernel_rfl
def dgA (d : List Int) : Array Value := (d.map (Value.int .u8)).toArray
theorem getD_mapD (L : List Int) (i : Nat) (h : i < L.length) : (L.map (Value.int .u8))[i]? = some (.int .u8 (L.getD i 0)) := by
 rw [List.getElem?_map, List.getElem?_eq_getElem h, List.getD_eq_getElem?_getD, List.getElem?_eq_getElem h]; rfl
theorem part_byteD (L : List Int) (i : Nat) (h : i < L.length) (w : World) : (part 5 (dgA L) (i * 1)).run Tryd.prog w = .ok (.int .u8 (L.getD i 0)) w := by
 have hu : (underlying 5).run Tryd.prog w = .ok (.int .u8) w := run_underlying Tryd.underlying5 w
 have hg := getD_mapD L i h
 simp [part, isAgg, hu, dgA, hg]
theorem eq_byteD (d : Nat) (a b : Int) (w : World) : (Op.equalIn (d + 1) 5 (.int .u8 a) (.int .u8 b)).run Tryd.prog w = .ok (a == b) w := by
 simp [Op.equalIn, run_underlying Tryd.underlying5]
theorem eq_itemsD (d : Nat) (X Y : List Int) : ∀ (is : List Nat) (w : World), (∀ i ∈ is, i < X.length ∧ i < Y.length) →
 (Op.eqItems (d + 1) 5 1 (dgA X) (dgA Y) is).run Tryd.prog w = .ok (is.all fun i => X.getD i 0 == Y.getD i 0) w
 | [], w, _ => by simp [Op.eqItems]
 | i :: is, w, h => by
   have hi := h i (by simp)
   have ih := eq_itemsD d X Y is w (fun j hj => h j (by simp [hj]))
   simp only [Op.eqItems, Sem.run_bind, part_byteD X i hi.1, part_byteD Y i hi.2, eq_byteD, Result.andThen_ok]
   cases hx : (X.getD i 0 == Y.getD i 0)
   ·rw [List.all_cons, hx]; simp
   ·rw [List.all_cons, hx]; simpa using ih
theorem all_range_eqD (X Y : List Int) (h : X.length = Y.length) : ((List.range X.length).all fun i => X.getD i 0 == Y.getD i 0) = decide (X = Y) := by
 by_cases e : X = Y
 ·subst e; simp
 ·simp only [e, decide_false]
  rw [Bool.eq_false_iff]
  intro ha
  refine e (List.ext_getElem h fun i h1 h2 => ?_)
  have := List.all_eq_true.1 ha i (by simpa using h1)
  simpa [List.getD_eq_getElem?_getD, List.getElem?_eq_getElem h1, List.getElem?_eq_getElem h2] using this
theorem eq_digD (dep : Nat) (X Y : List Int) (hX : X.length = 32) (hY : Y.length = 32) (w : World) : (Op.equalIn (dep + 2) 50 (.agg (dgA X)) (.agg (dgA Y))).run Tryd.prog w = .ok (decide (X = Y)) w := by
 have hc : Tryd.prog.cellsOf 5 = 1 := by kernel_rfl
 obtain ⟨i, hi⟩ : ∃ i, Tryd.prog.info? 5 = some i := Option.isSome_iff_exists.1 (by kernel_rfl)
 have h := run_equalIn_array (P := Tryd.prog) w (dep + 1) (dgA X) (dgA Y) Tryd.underlying50 hi
 rw [hc] at h
 have e := eq_itemsD dep X Y (List.range 32) w (fun j hj => by rw [hX, hY]; simpa using hj)
 have r := all_range_eqD X Y (by omega)
 rw [hX] at r
 rw [r] at e
 rw [e] at h
 exact h
theorem eqlD (X Y : List Int) (hX : X.length = 32) (hY : Y.length = 32) (w : World) :
 (binOp .eql 50 (.agg (X.map (Value.int .u8)).toArray) (.agg (Y.map (Value.int .u8)).toArray)).run Tryd.prog w = .ok (.bool (decide (X = Y))) w := by
 have h : (Op.equalIn 10000 50 (.agg (X.map (Value.int .u8)).toArray) (.agg (Y.map (Value.int .u8)).toArray)).run Tryd.prog w = .ok (decide (X = Y)) w := eq_digD 9998 X Y hX hY w
 simp only [binOp]
 simp [Op.equal, Op.maxDepth, h]
theorem eqlZ (X : List Int) (hX : X.length = 32) (w : World) : (binOp .eql 50 (.agg (X.map (Value.int .u8)).toArray) (.agg #[Value.int .u8 0, Value.int .u8 0, Value.int .u8 0, Value.int .u8 0, Value.int .u8 0, Value.int .u8 0, Value.int .u8 0, Value.int .u8 0, Value.int .u8 0, Value.int .u8 0, Value.int .u8 0, Value.int .u8 0, Value.int .u8 0, Value.int .u8 0, Value.int .u8 0, Value.int .u8 0, Value.int .u8 0, Value.int .u8 0, Value.int .u8 0, Value.int .u8 0, Value.int .u8 0, Value.int .u8 0, Value.int .u8 0, Value.int .u8 0, Value.int .u8 0, Value.int .u8 0, Value.int .u8 0, Value.int .u8 0, Value.int .u8 0, Value.int .u8 0, Value.int .u8 0, Value.int .u8 0])).run Tryd.prog w = .ok (.bool (decide (X = zed))) w := eqlD X zed hX rfl w
theorem range_row {w : World} {b t : Nat} {fz : Nat × Nat} {cs pre sub post : List Value} {o : Nat} (h : w.heap[b]? = some (.cells cs.toArray t fz)) (e : cs = pre ++ (sub ++ post)) (ho : o = pre.length) : w.rangeAt b o sub := by
 intro j v hv
 have hj := (List.getElem?_eq_some_iff.1 hv).1
 show w.cell? ⟨b, o + j, none⟩ = some v
 rw [cell_of_row w b (o + j) cs.toArray t fz h, e, ho, List.getElem?_toArray, List.getElem?_append_right (by omega), Nat.add_sub_cancel_left, List.getElem?_append_left hj, hv]
theorem info_d {d : List Int} (h : D32 d) : (Tryd.prog.info? 50).map (·.size) = some (d.map (Value.int .u8)).length := by rw [List.length_map, h.1]; exact infoD
theorem setRow_new (w : World) (old cells : Array Value) (t : TypeId) : (w.alloc (.cells old t)).setRow w.heap.size cells = w.alloc (.cells cells t) := by
 unfold World.setRow World.alloc
 congr 1
 apply Array.ext
 ·simp
 ·intro i h1 h2
  rw [Array.getElem_modify]
  by_cases e : w.heap.size = i
  ·subst e; simp
  ·have hi : i < w.heap.size := by simp at h2; omega
   simp [e, Array.getElem_push, hi]
/-! ### structs put together -/
end Go.Proofs.YtbbeeajkclbaaaaDoor
