/-
  Plain mathematics, without conditions beyond those of each lemma: composing, applying and comparing by insertion is what two ascending lists side by side give (no program is named here but for its name space).
-/
import Derived.Test.YtecllfbadciaoaaGreatDoorZip
import Derived.Test.YtecllfbadciaoaaGreatDoorQ0
import Derived.Test.YtecllfbadciaoaaGreatDoorProg
import Derived.WalkSpells
import Derived.WalkLawsBesides
import Derived.ChangeKeysEq
import Derived.Deep.MidRow
import Derived.Laws.Tables
import Derived.Great.BuildSlice
import Derived.Laws.CopyOwn
import Derived.Lib.SplitLaws
import Derived.Lib.IndexBytes
set_option maxRecDepth 100000
set_option maxHeartbeats 8000000
namespace Go.Proofs.YtecllfbadciaoaaGreatDoor
open Go
section
variable {α β : Type} {f : α → ByteArray} {g : β → ByteArray}
end
/-! ### composing -/
def hC (a : List Cg) (y : Cg) : Option Cg := match fd a y.p with
 | none => some y
 | some _ => none
def hA (x : Cg) : Option En := if x.n = zed then none else some ⟨x.p, x.n⟩
end Go.Proofs.YtecllfbadciaoaaGreatDoor
namespace Go.Proofs.YtecllfbadciaoaaGreatDoor
open Go.RowKit
def D32 (l : List Int) : Prop := l.length = 32 ∧ ∀ x ∈ l, 0 ≤ x ∧ x < 256
theorem D32.zed : D32 zed := ⟨rfl, fun x hx => by rw [List.eq_of_mem_replicate hx]; omega⟩
theorem infoD : (Tryz.prog.info? 80).map (·.size) = some 32 := by kernel_rfl
def dgA (d : List Int) : Array Value := (d.map (Value.int .u8)).toArray
theorem getD_mapD (L : List Int) (i : Nat) (h : i < L.length) : (L.map (Value.int .u8))[i]? = some (.int .u8 (L.getD i 0)) := by
 rw [List.getElem?_map, List.getElem?_eq_getElem h, List.getD_eq_getElem?_getD, List.getElem?_eq_getElem h]; rfl
theorem part_byteD (L : List Int) (i : Nat) (h : i < L.length) (w : World) : (part 5 (dgA L) (i * 1)).run Tryz.prog w = .ok (.int .u8 (L.getD i 0)) w := by
 have hu : (underlying 5).run Tryz.prog w = .ok (.int .u8) w := run_underlying Tryz.underlying5 w
 have hg := getD_mapD L i h
 simp [part, isAgg, hu, dgA, hg]
theorem eq_byteD (d : Nat) (a b : Int) (w : World) : (Op.equalIn (d + 1) 5 (.int .u8 a) (.int .u8 b)).run Tryz.prog w = .ok (a == b) w := by
 simp [Op.equalIn, run_underlying Tryz.underlying5]
theorem eq_itemsD (d : Nat) (X Y : List Int) : ∀ (is : List Nat) (w : World), (∀ i ∈ is, i < X.length ∧ i < Y.length) →
 (Op.eqItems (d + 1) 5 1 (dgA X) (dgA Y) is).run Tryz.prog w = .ok (is.all fun i => X.getD i 0 == Y.getD i 0) w
 | [], w, _ => by simp [Op.eqItems]
 | i :: is, w, h => by
   have hi := h i (by simp)
   have ih := eq_itemsD d X Y is w (fun j hj => h j (by simp [hj]))
   simp only [Op.eqItems, Sem.run_bind, part_byteD X i hi.1, part_byteD Y i hi.2, eq_byteD, Result.andThen_ok]
   cases hx : (X.getD i 0 == Y.getD i 0)
   ·rw [List.all_cons, hx]; simp
   ·rw [List.all_cons, hx]; simpa using ih
theorem all_range_eqD (X Y : List Int) (h : X.length = Y.length) : ((List.range X.length).all fun i => X.getD i 0 == Y.getD i 0) = decide (X = Y) := by
 by_cases e : X = Y
 ·subst e; simp
 ·simp only [e, decide_false]
  rw [Bool.eq_false_iff]
  intro ha
  refine e (List.ext_getElem h fun i h1 h2 => ?_)
  have := List.all_eq_true.1 ha i (by simpa using h1)
  simpa [List.getD_eq_getElem?_getD, List.getElem?_eq_getElem h1, List.getElem?_eq_getElem h2] using this
theorem eq_digD (dep : Nat) (X Y : List Int) (hX : X.length = 32) (hY : Y.length = 32) (w : World) : (Op.equalIn (dep + 2) 80 (.agg (dgA X)) (.agg (dgA Y))).run Tryz.prog w = .ok (decide (X = Y)) w := by
 have hc : Tryz.prog.cellsOf 5 = 1 := by kernel_rfl
 obtain ⟨i, hi⟩ : ∃ i, Tryz.prog.info? 5 = some i := Option.isSome_iff_exists.1 (by kernel_rfl)
 have h := run_equalIn_array (P := Tryz.prog) w (dep + 1) (dgA X) (dgA Y) Tryz.underlying80 hi
 rw [hc] at h
 have e := eq_itemsD dep X Y (List.range 32) w (fun j hj => by rw [hX, hY]; simpa using hj)
 have r := all_range_eqD X Y (by omega)
 rw [hX] at r
 rw [r] at e
 rw [e] at h
 exact h
theorem eqlD (X Y : List Int) (hX : X.length = 32) (hY : Y.length = 32) (w : World) :
 (binOp .eql 80 (.agg (X.map (Value.int .u8)).toArray) (.agg (Y.map (Value.int .u8)).toArray)).run Tryz.prog w = .ok (.bool (decide (X = Y))) w := by
 have h : (Op.equalIn 10000 80 (.agg (X.map (Value.int .u8)).toArray) (.agg (Y.map (Value.int .u8)).toArray)).run Tryz.prog w = .ok (decide (X = Y)) w := eq_digD 9998 X Y hX hY w
 simp only [binOp]
 simp [Op.equal, Op.maxDepth, h]
theorem eqlZ (X : List Int) (hX : X.length = 32) (w : World) : (binOp .eql 80 (.agg (X.map (Value.int .u8)).toArray) (.agg #[Value.int .u8 0, Value.int .u8 0, Value.int .u8 0, Value.int .u8 0, Value.int .u8 0, Value.int .u8 0, Value.int .u8 0, Value.int .u8 0, Value.int .u8 0, Value.int .u8 0, Value.int .u8 0, Value.int .u8 0, Value.int .u8 0, Value.int .u8 0, Value.int .u8 0, Value.int .u8 0, Value.int .u8 0, Value.int .u8 0, Value.int .u8 0, Value.int .u8 0, Value.int .u8 0, Value.int .u8 0, Value.int .u8 0, Value.int .u8 0, Value.int .u8 0, Value.int .u8 0, Value.int .u8 0, Value.int .u8 0, Value.int .u8 0, Value.int .u8 0, Value.int .u8 0, Value.int .u8 0])).run Tryz.prog w = .ok (.bool (decide (X = zed))) w := eqlD X zed hX rfl w
theorem range_row {w : World} {b t : Nat} {fz : Nat × Nat} {cs pre sub post : List Value} {o : Nat} (h : w.heap[b]? = some (.cells cs.toArray t fz)) (e : cs = pre ++ (sub ++ post)) (ho : o = pre.length) : w.rangeAt b o sub := by
 intro j v hv
 have hj := (List.getElem?_eq_some_iff.1 hv).1
 show w.cell? ⟨b, o + j, none⟩ = some v
 rw [cell_of_row w b (o + j) cs.toArray t fz h, e, ho, List.getElem?_toArray, List.getElem?_append_right (by omega), Nat.add_sub_cancel_left, List.getElem?_append_left hj, hv]
theorem info_d {d : List Int} (h : D32 d) : (Tryz.prog.info? 80).map (·.size) = some (d.map (Value.int .u8)).length := by rw [List.length_map, h.1]; exact infoD
theorem setRow_new (w : World) (old cells : Array Value) (t : TypeId) : (w.alloc (.cells old t)).setRow w.heap.size cells = w.alloc (.cells cells t) := by
 unfold World.setRow World.alloc
 congr 1
 apply Array.ext
 ·simp
 ·intro i h1 h2
  rw [Array.getElem_modify]
  by_cases e : w.heap.size = i
  ·subst e; simp
  ·have hi : i < w.heap.size := by simp at h2; omega
   simp [e, Array.getElem_push, hi]
/-! ### structs put together -/
theorem fold_put (off : Nat) : ∀ (vs pre old post : List Value) (k : Nat), off + k = pre.length → old.length = vs.length →
 (vs.zipIdx k).foldl (fun cs (x : Value × Nat) => cs.setIfInBounds (off + x.2) x.1) (pre ++ (old ++ post)).toArray = (pre ++ (vs ++ post)).toArray
 | [], pre, old, post, k, _, ho => by
   have : old = [] := List.eq_nil_of_length_eq_zero ho
   subst this; rfl
 | v :: vs, pre, o :: old, post, k, hk, ho => by
   rw [List.zipIdx_cons, List.foldl_cons]
   have h1 : (pre ++ (o :: old ++ post)).toArray.setIfInBounds (off + k) v = ((pre ++ [v]) ++ (old ++ post)).toArray := by
    rw [List.setIfInBounds_toArray, hk, List.cons_append, List.set_append_right _ _ (Nat.le_refl _), Nat.sub_self, List.set_cons_zero, List.append_assoc]; rfl
   show List.foldl _ ((pre ++ (o :: old ++ post)).toArray.setIfInBounds (off + k) v) _ = _
   rw [h1, fold_put off vs (pre ++ [v]) old post (k + 1) (by rw [List.length_append]; show off + (k + 1) = pre.length + 1; omega) (by simpa using ho), List.append_assoc]; rfl
theorem fill_put {place : Nat → Option (Nat × Nat)} {i off sz : Nat} {v : Value} {rest : List (Nat × Value)} (vs pre old post : List Value) (hp : place i = some (off, sz)) (hv : v.cells = vs.toArray) (hl : vs.length = sz) (ho : off = pre.length) (hold : old.length = sz) :
 Instr.fill place (pre ++ (old ++ post)).toArray ((i, v) :: rest) = Instr.fill place (pre ++ (vs ++ post)).toArray rest := by
 rw [Instr.fill, hp]
 show (if v.cells.size ≠ sz || off + v.cells.size > (pre ++ (old ++ post)).toArray.size then none else _) = _
 rw [if_neg (by rw [hv]; simp; omega)]
 congr 1
 rw [hv, ← Array.foldl_toList, Array.toList_zipIdx]
 exact fold_put off vs pre old post 0 (by omega) (by omega)
theorem built_fill {P : Program} {t : TypeId} {fields : Array Field} {z : Value} {places : List (Nat × Nat)} {parts : List (Nat × Value)} (hi : (P.info? t).map (·.zero) = some (some z)) (hu : P.underlying t = some (.struct fields))
 (hp : fields.toList.mapM (fun f => (P.info? f.type).map fun i => (f.offset, i.size)) = some places) : P.built t parts = Instr.fill (places.toArray[·]?) z.cells parts := by
 cases h : P.info? t with
 | none => rw [h] at hi; cases hi
 | some it =>
   rw [h] at hi
   have hz : it.zero = some z := by injection hi
   unfold Program.built
   simp only [h, hu, hz, hp]
theorem str_cells (s : ByteArray) : (Value.string s).cells = [Value.string s].toArray := rfl
theorem slice_one (w : World) (t e : TypeId) (cs : List Value) (ie : TypeInfo) (z : Value) (hu : Tryz.prog.underlying t = some (.slice e)) (hie : Tryz.prog.info? e = some ie) (hz : ie.zero = some z) (hs : ie.size = cs.length) (h0 : 0 < cs.length) (h1 : cs.length ≤ 1000) :
 (Instr.buildSlice t 1 #[(0, .agg cs.toArray)]).run Tryz.prog w = .ok (.slice (some ⟨w.heap.size, 0, none⟩) 1 1) (w.alloc (.cells cs.toArray e)) := by
 refine run_buildSlice w t e 1 _ _ ie z hu hie hz (by rw [hs]; omega) (by rw [hs]; omega) ?_
 obtain ⟨old, hold⟩ : ∃ old : List Value, old = ((Array.range (1 * ie.size)).map (z.cells[· % z.cells.size]!)).toList := ⟨_, rfl⟩
 have hl : old.length = ie.size := by rw [hold]; simp
 have e1 : (Array.range (1 * ie.size)).map (z.cells[· % z.cells.size]!) = ([] ++ (old ++ [])).toArray := by rw [hold, List.nil_append, List.append_nil]
 rw [e1]
 rw [fill_put cs [] old [] (sz := ie.size) (off := 0 * ie.size) rfl rfl hs.symm (by simp) hl]
 simp [Instr.fill]
def enL (x : En) : List Value := Value.string x.p :: x.d.map (Value.int .u8)
def cgL (x : Cg) : List Value := Value.string x.p :: (x.o.map (Value.int .u8) ++ x.n.map (Value.int .u8))
def OkE (x : En) : Prop := D32 x.d
def OkC (x : Cg) : Prop := D32 x.o ∧ D32 x.n
theorem enL_length {x : En} (h : OkE x) : (enL x).length = 33 := by unfold enL; rw [List.length_cons, List.length_map, h.1]
theorem enL_one (x : En) : ∀ u ∈ enL x, u.oneCell' = true := fun u hu => by
 rcases List.mem_cons.1 hu with rfl | hu
 ·rfl
 ·obtain ⟨i, _, rfl⟩ := List.mem_map.1 hu; rfl
theorem infoE : (Tryz.prog.info? 82).map (·.size) = some 33 := by kernel_rfl
def CgB (w : World) (b : Nat) (x : Cg) : Prop := w.heap[b]? = some (.cells (cgL x).toArray 86 (0, 0))
def EnB (w : World) (b : Nat) (x : En) : Prop := w.heap[b]? = some (.cells (enL x).toArray 82 (0, 0))
theorem CgB.p {w : World} {b : Nat} {x : Cg} (h : CgB w b x) : w.cell? ⟨b, 0, none⟩ = some (.string x.p) := by rw [cell_of_row w b 0 _ _ _ h]; rfl
theorem CgB.o {w : World} {b : Nat} {x : Cg} (h : CgB w b x) : w.rangeAt b 1 (x.o.map (Value.int .u8)) := range_row (pre := [.string x.p]) h rfl rfl
theorem CgB.n {w : World} {b : Nat} {x : Cg} (h : CgB w b x) (hx : OkC x) : w.rangeAt b 33 (x.n.map (Value.int .u8)) := range_row (pre := .string x.p :: x.o.map (Value.int .u8)) (post := []) h (by simp [cgL]) (by rw [List.length_cons, List.length_map, hx.1.1])
theorem EnB.p {w : World} {b : Nat} {x : En} (h : EnB w b x) : w.cell? ⟨b, 0, none⟩ = some (.string x.p) := by rw [cell_of_row w b 0 _ _ _ h]; rfl
theorem EnB.d {w : World} {b : Nat} {x : En} (h : EnB w b x) : w.rangeAt b 1 (x.d.map (Value.int .u8)) := range_row (pre := [.string x.p]) (post := []) h (by simp [enL]) rfl
theorem CgB.all {w : World} {b : Nat} {x : Cg} (h : CgB w b x) : w.rangeAt b 0 (cgL x) := range_row (pre := []) (post := []) h (by simp) rfl
theorem EnB.all {w : World} {b : Nat} {x : En} (h : EnB w b x) : w.rangeAt b 0 (enL x) := range_row (pre := []) (post := []) h (by simp) rfl
theorem CgB.new (w : World) (x : Cg) : CgB (w.alloc (.cells (cgL x).toArray 86)) w.heap.size x := heap_alloc_new w _
theorem EnB.new (w : World) (x : En) : EnB (w.alloc (.cells (enL x).toArray 82)) w.heap.size x := heap_alloc_new w _
theorem CgB.below {w w' : World} {B b : Nat} {x : Cg} (h : CgB w b x) (hb : Below B w w') (hlt : b < B) : CgB w' b x := (hb.block b hlt).trans h
theorem EnB.below {w w' : World} {B b : Nat} {x : En} (h : EnB w b x) (hb : Below B w w') (hlt : b < B) : EnB w' b x := (hb.block b hlt).trans h
theorem info_e {x : En} (h : OkE x) : (Tryz.prog.info? 82).map (·.size) = some (enL x).length := by rw [enL_length h]; exact infoE
def zE : List Value := [.string ⟨#[]⟩] ++ List.replicate 32 (.int .u8 0)
theorem zeroE : (Tryz.prog.info? 82).map (·.zero) = some (some (.agg zE.toArray)) := by kernel_rfl
theorem buildE (p : ByteArray) (d : List Int) (hd : d.length = 32) (w : World) :
 (Instr.build 82 #[(0, .string p), (1, .agg (d.map (Value.int .u8)).toArray)]).run Tryz.prog w = .ok (.agg (enL ⟨p, d⟩).toArray) w := by
 refine run_build w _ _ _ ?_
 rw [built_fill zeroE Tryz.underlying82 (places := [(0, 1), (1, 32)]) (by kernel_rfl)]
 show Instr.fill _ ([] ++ ([Value.string ⟨#[]⟩] ++ List.replicate 32 (Value.int .u8 0))).toArray [(0, Value.string p), (1, .agg (d.map (Value.int .u8)).toArray)] = _
 rw [fill_put [Value.string p] [] [Value.string ⟨#[]⟩] (List.replicate 32 (Value.int .u8 0)) (off := 0) (sz := 1) rfl (str_cells p) rfl rfl rfl, List.nil_append]
 rw [show [Value.string p] ++ List.replicate 32 (Value.int .u8 0) = [Value.string p] ++ (List.replicate 32 (Value.int .u8 0) ++ []) by simp]
 rw [fill_put (d.map (Value.int .u8)) [Value.string p] (List.replicate 32 (Value.int .u8 0)) [] rfl rfl (by simp [hd]) rfl (by simp)]
 simp [Instr.fill, enL]
theorem sliceE (w : World) (x : En) (hx : OkE x) : (Instr.buildSlice 29 1 #[(0, .agg (enL x).toArray)]).run Tryz.prog w = .ok (.slice (some ⟨w.heap.size, 0, none⟩) 1 1) (w.alloc (.cells (enL x).toArray 82)) := by
 have h := enL_length hx
 have hz := zeroE
 have hi := infoE
 cases hie : Tryz.prog.info? 82 with
 | none => rw [hie] at hi; cases hi
 | some ie =>
   rw [hie] at hi hz
   exact slice_one w _ _ _ ie _ Tryz.underlying29 hie (by injection hz) (by rw [h]; injection hi) (by omega) (by omega)
theorem entryPath_any (x : En) (w : World) :
 Calls Tryz.prog 84 #[.agg (enL x).toArray] w fun e w' => e = .returned (.string x.p) ∧ Below w.heap.size w w' := by
 have hr := (EnB.new w x).p
 have HB := zh ((Below.refl w.heap.size w).alloc (Nat.le_refl _) (.cells (enL x).toArray 82))
 go_enter Tryz.func84, Tryz.ntmps84
 go_wp2_with fail
 go_ret
 exact ⟨rfl, HB.out⟩
end Go.Proofs.YtecllfbadciaoaaGreatDoor
namespace Go.Proofs.YtecllfbadciaoaaGreatDoor
open Go
def slB : ByteArray := ⟨#[47]⟩
def seg (s : ByteArray) : List ByteArray := Lib.splitB slB 0 (Lib.countB s slB) s
theorem seg_miss (s : ByteArray) (h : Lib.indexB s slB = -1) : seg s = [s] := Lib.splitB_miss slB 0 _ s h
theorem seg_hit (s : ByteArray) (i : Nat) (h : Lib.indexB s slB = i) : seg s = s.extract 0 i :: seg (s.extract (i + 1) s.size) := by
 unfold seg
 rw [Lib.countB_hit s slB i (by decide) h, Nat.add_comm 1, Lib.splitB_hit slB 0 _ s i h]
 rfl
def goodB (x : ByteArray) : Bool := !(x.toList == []) && !(x.toList == [46]) && !(x.toList == [46, 46])
def pathB (s : ByteArray) : Bool := decide (s.size ≤ 200) && decide (Lib.indexByte s.data.toList 0 < 0) && (seg s).all goodB
end Go.Proofs.YtecllfbadciaoaaGreatDoor
namespace Go.Proofs.YtecllfbadciaoaaGreatDoor
open Go.RowKit
theorem indexByteLite_anyP (s : ByteArray) (c : Int) (w : World) :
 Calls Tryz.prog 126 #[.string s, .int .u8 c] w fun e w' => e = .returned (.int .i64 (Lib.indexByte s.data.toList c.toNat.toUInt8)) ∧ w = w' := by
 go_enter Tryz.func126, Tryz.ntmps126
 go_wp2
 rw [run_callFunc_extern Tryz.func141 (by kernel_rfl) (by kernel_rfl) (by kernel_rfl) (e := Extern.BytealgIndexByte.indexByte) (by kernel_rfl), Lib.run_indexByteString]
 simp only [Result.andThen]
 rw [Oper.upon_value]
 go_wp2
 go_ret
 exact ⟨rfl, rfl⟩
theorem indexByte_anyP (s : ByteArray) (c : Int) (w : World) :
 Calls Tryz.prog 106 #[.string s, .int .u8 c] w fun e w' => e = .returned (.int .i64 (Lib.indexByte s.data.toList c.toNat.toUInt8)) ∧ w = w' := by
 go_enter Tryz.func106, Tryz.ntmps106
 go_wp2_with (go_at_call 126; refine (indexByteLite_anyP _ _ _).mono ?_; rintro e w' ⟨rfl, rfl⟩)
 go_ret
 exact ⟨rfl, rfl⟩
theorem indexB_one (s : ByteArray) : Lib.indexB s slB = Lib.indexByte s.data.toList 47 := by
 show Lib.index s.data.toList [47] = _
 exact Lib.index_one _ _
theorem indexLite_anyP (s : ByteArray) (w : World) :
 Calls Tryz.prog 131 #[.string s, .string slB] w fun e w' => e = .returned (.int .i64 (Lib.indexB s slB)) ∧ w = w' := by
 have hsz : slB.size = 1 := rfl
 rw [indexB_one]
 by_cases h : (slB.toList == s.toList) = true
 ·have hl : s.data.toList = [47] := by rw [beq_iff_eq, Lib.toList_data, Lib.toList_data] at h; exact h.symm
  have HI : Hid (Lib.indexByte s.data.toList 47 = 0) := by show _ = _; rw [hl]; rfl
  clear hl
  go_enter Tryz.func131, Tryz.ntmps131
  go_wp2_with fail
  go_ret
  exact ⟨by rw [HI.out]; rfl, rfl⟩
 ·have h : (slB.toList == s.toList) = false := by simpa using h
  go_enter Tryz.func131, Tryz.ntmps131
  go_wp2_with (go_at_call 126; refine (indexByteLite_anyP _ _ _).mono ?_; rintro e w' ⟨rfl, rfl⟩)
  go_ret
  exact ⟨rfl, rfl⟩
theorem index_anyP (s : ByteArray) (w : World) :
 Calls Tryz.prog 129 #[.string s, .string slB] w fun e w' => e = .returned (.int .i64 (Lib.indexB s slB)) ∧ w = w' := by
 go_enter Tryz.func129, Tryz.ntmps129
 go_wp2_with (go_at_call 131; refine (indexLite_anyP _ _).mono ?_; rintro e w' ⟨rfl, rfl⟩)
 go_ret
 exact ⟨rfl, rfl⟩
theorem splitSeqIn_any (s : ByteArray) (w : World) :
 Calls Tryz.prog 153 #[.string s, .string slB, .int .i64 0] w fun e w' => e = .returned (.func (.func 159) #[] #[.pointer (some ⟨w.heap.size + 1, 0, none⟩), .pointer (some ⟨w.heap.size, 0, none⟩), .pointer (some ⟨w.heap.size + 2, 0, none⟩)]) ∧
  w' = ((w.alloc (.cells #[.string s] 9)).alloc (.cells #[.string slB] 9)).alloc (.cells #[.int .i64 0] 3) := by
 go_enter Tryz.func153, Tryz.ntmps153
 go_wp2
 go_ret
 exact ⟨rfl, rfl⟩
theorem splitSeq_any (s : ByteArray) (w : World) :
 Calls Tryz.prog 136 #[.string s, .string slB] w fun e w' => e = .returned (.func (.func 159) #[] #[.pointer (some ⟨w.heap.size + 1, 0, none⟩), .pointer (some ⟨w.heap.size, 0, none⟩), .pointer (some ⟨w.heap.size + 2, 0, none⟩)]) ∧
  w' = ((w.alloc (.cells #[.string s] 9)).alloc (.cells #[.string slB] 9)).alloc (.cells #[.int .i64 0] 3) := by
 go_enter Tryz.func136, Tryz.ntmps136
 go_wp2_with (go_at_call 153; refine (splitSeqIn_any _ _).mono ?_; rintro e w' ⟨rfl, rfl⟩)
 go_ret
 exact ⟨rfl, rfl⟩
end Go.Proofs.YtecllfbadciaoaaGreatDoor
