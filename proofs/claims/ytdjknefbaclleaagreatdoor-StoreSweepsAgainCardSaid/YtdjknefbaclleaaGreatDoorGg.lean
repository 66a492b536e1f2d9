/-
  The zero digest as a list of bytes (no program is named here but for its name space).
-/
import GoSem.Claim
import Derived.Test.YtdjknefbaclleaaGreatDoorProg
import Derived.WalkKit
import Derived.WalkSpells
import Derived.WalkLawsBesides
import Derived.ChangeKeysEq
import Derived.Deep.MidRow
import Derived.Laws.Tables
import Derived.Great.BuildSlice
import Derived.Laws.CopyOwn
import Derived.Below
import Derived.Lib.Hide
import Derived.Test.YtdjknefbaclleaaGreatDoorOwnG
import Derived.OwnWalk
import Derived.Laws.AppendOwn
import Derived.Test.YtdjknefbaclleaaGreatDoorGa
import Derived.Lib.Bytealg
import Derived.Lib.BytesEntry
import Derived.Test.YtdjknefbaclleaaGreatDoorGf
import Derived.Laws.AppendOwnNone
namespace Go.Proofs.YtdjknefbaclleaaGreatDoor
open Go

def zed : List Int := List.replicate 32 0
end Go.Proofs.YtdjknefbaclleaaGreatDoor

namespace Go.Proofs.YtdjknefbaclleaaGreatDoor
open Go.RowKit


/-- 32 bytes -/
def D32 (l : List Int) : Prop := l.length = 32 ∧ ∀ x ∈ l, 0 ≤ x ∧ x < 256
theorem D32.zed : D32 zed := ⟨rfl, fun x hx => by rw [List.eq_of_mem_replicate hx]; omega⟩
theorem infoD : (Tryz.prog.info? 29).map (·.size) = some 32 := by kernel_rfl
/-- a digest as an array's value -/
def dgA (d : List Int) : Array Value := (d.map (Value.int .u8)).toArray

theorem getD_mapD (L : List Int) (i : Nat) (h : i < L.length) : (L.map (Value.int .u8))[i]? = some (.int .u8 (L.getD i 0)) := by
  rw [List.getElem?_map, List.getElem?_eq_getElem h, List.getD_eq_getElem?_getD, List.getElem?_eq_getElem h]; rfl
theorem part_byteD (L : List Int) (i : Nat) (h : i < L.length) (w : World) : (part 5 (dgA L) (i * 1)).run Tryz.prog w = .ok (.int .u8 (L.getD i 0)) w := by
  have hu : (underlying 5).run Tryz.prog w = .ok (.int .u8) w := run_underlying Tryz.underlying5 w
  have hg := getD_mapD L i h
  simp [part, isAgg, hu, dgA, hg]
theorem eq_byteD (d : Nat) (a b : Int) (w : World) : (Op.equalIn (d + 1) 5 (.int .u8 a) (.int .u8 b)).run Tryz.prog w = .ok (a == b) w := by
  simp [Op.equalIn, run_underlying Tryz.underlying5]
theorem eq_itemsD (d : Nat) (X Y : List Int) : ∀ (is : List Nat) (w : World), (∀ i ∈ is, i < X.length ∧ i < Y.length) →
    (Op.eqItems (d + 1) 5 1 (dgA X) (dgA Y) is).run Tryz.prog w = .ok (is.all fun i => X.getD i 0 == Y.getD i 0) w
  | [], w, _ => by simp [Op.eqItems]
  | i :: is, w, h => by
    have hi := h i (by simp)
    have ih := eq_itemsD d X Y is w (fun j hj => h j (by simp [hj]))
    simp only [Op.eqItems, Sem.run_bind, part_byteD X i hi.1, part_byteD Y i hi.2, eq_byteD, Result.andThen_ok]
    cases hx : (X.getD i 0 == Y.getD i 0)
    · rw [List.all_cons, hx]; simp
    · rw [List.all_cons, hx]; simpa using ih
theorem all_range_eqD (X Y : List Int) (h : X.length = Y.length) : ((List.range X.length).all fun i => X.getD i 0 == Y.getD i 0) = decide (X = Y) := by
  by_cases e : X = Y
  · subst e; simp
  · simp only [e, decide_false]
    rw [Bool.eq_false_iff]
    intro ha
    refine e (List.ext_getElem h fun i h1 h2 => ?_)
    have := List.all_eq_true.1 ha i (by simpa using h1)
    simpa [List.getD_eq_getElem?_getD, List.getElem?_eq_getElem h1, List.getElem?_eq_getElem h2] using this
theorem eq_digD (dep : Nat) (X Y : List Int) (hX : X.length = 32) (hY : Y.length = 32) (w : World) : (Op.equalIn (dep + 2) 29 (.agg (dgA X)) (.agg (dgA Y))).run Tryz.prog w = .ok (decide (X = Y)) w := by
  have hc : Tryz.prog.cellsOf 5 = 1 := by kernel_rfl
  obtain ⟨i, hi⟩ : ∃ i, Tryz.prog.info? 5 = some i := Option.isSome_iff_exists.1 (by kernel_rfl)
  have h := run_equalIn_array (P := Tryz.prog) w (dep + 1) (dgA X) (dgA Y) Tryz.underlying29 hi
  rw [hc] at h
  have e := eq_itemsD dep X Y (List.range 32) w (fun j hj => by rw [hX, hY]; simpa using hj)
  have r := all_range_eqD X Y (by omega)
  rw [hX] at r
  rw [r] at e
  rw [e] at h
  exact h
/-- two digests compared -/
theorem eqlD (X Y : List Int) (hX : X.length = 32) (hY : Y.length = 32) (w : World) :
    (binOp .eql 29 (.agg (X.map (Value.int .u8)).toArray) (.agg (Y.map (Value.int .u8)).toArray)).run Tryz.prog w = .ok (.bool (decide (X = Y))) w := by
  have h : (Op.equalIn 10000 29 (.agg (X.map (Value.int .u8)).toArray) (.agg (Y.map (Value.int .u8)).toArray)).run Tryz.prog w = .ok (decide (X = Y)) w := eq_digD 9998 X Y hX hY w
  simp only [binOp]
  simp [Op.equal, Op.maxDepth, h]
theorem neqD (X Y : List Int) (hX : X.length = 32) (hY : Y.length = 32) (w : World) :
    (binOp .neq 29 (.agg (X.map (Value.int .u8)).toArray) (.agg (Y.map (Value.int .u8)).toArray)).run Tryz.prog w = .ok (.bool (!decide (X = Y))) w := by
  have h : (Op.equalIn 10000 29 (.agg (X.map (Value.int .u8)).toArray) (.agg (Y.map (Value.int .u8)).toArray)).run Tryz.prog w = .ok (decide (X = Y)) w := eq_digD 9998 X Y hX hY w
  simp only [binOp]
  simp [Op.equal, Op.maxDepth, h]
/-- the zero digest as an array's value -/
def zA : Array Value := (zed.map (Value.int .u8)).toArray
theorem buildD (w : World) : (Instr.build 29 #[]).run Tryz.prog w = .ok (.agg zA) w := by kernel_rfl
theorem eqlZ (X : List Int) (hX : X.length = 32) (w : World) : (binOp .eql 29 (.agg (X.map (Value.int .u8)).toArray) (.agg #[Value.int .u8 0, Value.int .u8 0, Value.int .u8 0, Value.int .u8 0, Value.int .u8 0, Value.int .u8 0, Value.int .u8 0, Value.int .u8 0, Value.int .u8 0, Value.int .u8 0, Value.int .u8 0, Value.int .u8 0, Value.int .u8 0, Value.int .u8 0, Value.int .u8 0, Value.int .u8 0, Value.int .u8 0, Value.int .u8 0, Value.int .u8 0, Value.int .u8 0, Value.int .u8 0, Value.int .u8 0, Value.int .u8 0, Value.int .u8 0, Value.int .u8 0, Value.int .u8 0, Value.int .u8 0, Value.int .u8 0, Value.int .u8 0, Value.int .u8 0, Value.int .u8 0, Value.int .u8 0])).run Tryz.prog w = .ok (.bool (decide (X = zed))) w := eqlD X zed hX rfl w
theorem neqZ (X : List Int) (hX : X.length = 32) (w : World) : (binOp .neq 29 (.agg (X.map (Value.int .u8)).toArray) (.agg #[Value.int .u8 0, Value.int .u8 0, Value.int .u8 0, Value.int .u8 0, Value.int .u8 0, Value.int .u8 0, Value.int .u8 0, Value.int .u8 0, Value.int .u8 0, Value.int .u8 0, Value.int .u8 0, Value.int .u8 0, Value.int .u8 0, Value.int .u8 0, Value.int .u8 0, Value.int .u8 0, Value.int .u8 0, Value.int .u8 0, Value.int .u8 0, Value.int .u8 0, Value.int .u8 0, Value.int .u8 0, Value.int .u8 0, Value.int .u8 0, Value.int .u8 0, Value.int .u8 0, Value.int .u8 0, Value.int .u8 0, Value.int .u8 0, Value.int .u8 0, Value.int .u8 0, Value.int .u8 0])).run Tryz.prog w = .ok (.bool (!decide (X = zed))) w := neqD X zed hX rfl w

/-- what stands in a row, from a place on -/
theorem range_row {w : World} {b t : Nat} {fz : Nat × Nat} {cs pre sub post : List Value} {o : Nat} (h : w.heap[b]? = some (.cells cs.toArray t fz)) (e : cs = pre ++ (sub ++ post)) (ho : o = pre.length) : w.rangeAt b o sub := by
  intro j v hv
  have hj := (List.getElem?_eq_some_iff.1 hv).1
  show w.cell? ⟨b, o + j, none⟩ = some v
  rw [cell_of_row w b (o + j) cs.toArray t fz h, e, ho, List.getElem?_toArray, List.getElem?_append_right (by omega), Nat.add_sub_cancel_left, List.getElem?_append_left hj, hv]
theorem info_d {d : List Int} (h : D32 d) : (Tryz.prog.info? 29).map (·.size) = some (d.map (Value.int .u8)).length := by rw [List.length_map, h.1]; exact infoD
theorem setRow_new (w : World) (old cells : Array Value) (t : TypeId) : (w.alloc (.cells old t)).setRow w.heap.size cells = w.alloc (.cells cells t) := by
  unfold World.setRow World.alloc
  congr 1
  apply Array.ext
  · simp
  · intro i h1 h2
    rw [Array.getElem_modify]
    by_cases e : w.heap.size = i
    · subst e; simp
    · have hi : i < w.heap.size := by simp at h2; omega
      simp [e, Array.getElem_push, hi]

/-! ### structs put together -/
theorem fold_put (off : Nat) : ∀ (vs pre old post : List Value) (k : Nat), off + k = pre.length → old.length = vs.length →
    (vs.zipIdx k).foldl (fun cs (x : Value × Nat) => cs.setIfInBounds (off + x.2) x.1) (pre ++ (old ++ post)).toArray = (pre ++ (vs ++ post)).toArray
  | [], pre, old, post, k, _, ho => by
    have : old = [] := List.eq_nil_of_length_eq_zero ho
    subst this; rfl
  | v :: vs, pre, o :: old, post, k, hk, ho => by
    rw [List.zipIdx_cons, List.foldl_cons]
    have h1 : (pre ++ (o :: old ++ post)).toArray.setIfInBounds (off + k) v = ((pre ++ [v]) ++ (old ++ post)).toArray := by
      rw [List.setIfInBounds_toArray, hk, List.cons_append, List.set_append_right _ _ (Nat.le_refl _), Nat.sub_self, List.set_cons_zero, List.append_assoc]; rfl
    show List.foldl _ ((pre ++ (o :: old ++ post)).toArray.setIfInBounds (off + k) v) _ = _
    rw [h1, fold_put off vs (pre ++ [v]) old post (k + 1) (by rw [List.length_append]; show off + (k + 1) = pre.length + 1; omega) (by simpa using ho), List.append_assoc]; rfl
theorem fill_put {place : Nat → Option (Nat × Nat)} {i off sz : Nat} {v : Value} {rest : List (Nat × Value)} (vs pre old post : List Value) (hp : place i = some (off, sz)) (hv : v.cells = vs.toArray) (hl : vs.length = sz) (ho : off = pre.length) (hold : old.length = sz) :
    Instr.fill place (pre ++ (old ++ post)).toArray ((i, v) :: rest) = Instr.fill place (pre ++ (vs ++ post)).toArray rest := by
  rw [Instr.fill, hp]
  show (if v.cells.size ≠ sz || off + v.cells.size > (pre ++ (old ++ post)).toArray.size then none else _) = _
  rw [if_neg (by rw [hv]; simp; omega)]
  congr 1
  rw [hv, ← Array.foldl_toList, Array.toList_zipIdx]
  exact fold_put off vs pre old post 0 (by omega) (by omega)
theorem built_fill {P : Program} {t : TypeId} {fields : Array Field} {z : Value} {places : List (Nat × Nat)} {parts : List (Nat × Value)} (hi : (P.info? t).map (·.zero) = some (some z)) (hu : P.underlying t = some (.struct fields))
    (hp : fields.toList.mapM (fun f => (P.info? f.type).map fun i => (f.offset, i.size)) = some places) : P.built t parts = Instr.fill (places.toArray[·]?) z.cells parts := by
  cases h : P.info? t with
  | none => rw [h] at hi; cases hi
  | some it =>
    rw [h] at hi
    have hz : it.zero = some z := by injection hi
    unfold Program.built
    simp only [h, hu, hz, hp]
theorem zed_cells : zed.map (Value.int .u8) = List.replicate 32 (.int .u8 0) := rfl
theorem agg_cells (l : List Value) : (Value.agg l.toArray).cells = l.toArray := rfl
theorem str_cells (s : ByteArray) : (Value.string s).cells = [Value.string s].toArray := rfl
/-- a slice of one struct -/
theorem slice_one (w : World) (t e : TypeId) (cs : List Value) (ie : TypeInfo) (z : Value) (hu : Tryz.prog.underlying t = some (.slice e)) (hie : Tryz.prog.info? e = some ie) (hz : ie.zero = some z) (hs : ie.size = cs.length) (h0 : 0 < cs.length) (h1 : cs.length ≤ 1000) :
    (Instr.buildSlice t 1 #[(0, .agg cs.toArray)]).run Tryz.prog w = .ok (.slice (some ⟨w.heap.size, 0, none⟩) 1 1) (w.alloc (.cells cs.toArray e)) := by
  refine run_buildSlice w t e 1 _ _ ie z hu hie hz (by rw [hs]; omega) (by rw [hs]; omega) ?_
  obtain ⟨old, hold⟩ : ∃ old : List Value, old = ((Array.range (1 * ie.size)).map (z.cells[· % z.cells.size]!)).toList := ⟨_, rfl⟩
  have hl : old.length = ie.size := by rw [hold]; simp
  have e1 : (Array.range (1 * ie.size)).map (z.cells[· % z.cells.size]!) = ([] ++ (old ++ [])).toArray := by rw [hold, List.nil_append, List.append_nil]
  rw [e1]
  rw [fill_put cs [] old [] (sz := ie.size) (off := 0 * ie.size) rfl rfl hs.symm (by simp) hl]
  simp [Instr.fill]
end Go.Proofs.YtdjknefbaclleaaGreatDoor

namespace Go.Proofs.YtdjknefbaclleaaGreatDoor
end Go.Proofs.YtdjknefbaclleaaGreatDoor

namespace Go.Proofs.YtdjknefbaclleaaGreatDoor
open Go.RowKit

/-- a blob: its digest, its data as a slice and as bytes -/
structure Bl where
  d : List Int
  sp : Option Addr
  n : Nat
  cap : Nat
  b : List Int
def blL (x : Bl) : List Value := x.d.map (Value.int .u8) ++ [.slice x.sp x.n x.cap]
def OkB (x : Bl) : Prop := D32 x.d
/-- its digest and its bytes -/
def bp (x : Bl) : List Int × List Int := (x.d, x.b)
theorem blL_length {x : Bl} (h : OkB x) : (blL x).length = 33 := by unfold blL; rw [List.length_append, List.length_map, h.1]; rfl
theorem blL_one (x : Bl) : ∀ u ∈ blL x, u.oneCell' = true := fun u hu => by
  rcases List.mem_append.1 hu with hu | hu
  · obtain ⟨i, _, rfl⟩ := List.mem_map.1 hu; rfl
  · rw [List.mem_singleton.1 hu]; rfl
theorem blA_one (x : Bl) : (blL x).toArray.all (·.oneCell') = true := Array.all_eq_true_iff_forall_mem.2 (by simpa using blL_one x)
theorem infoB : (Tryz.prog.info? 50).map (·.size) = some 33 := by kernel_rfl
def zB : List Value := List.replicate 32 (Value.int .u8 0) ++ [.slice none 0 0]
theorem infoB3 : (Tryz.prog.info? 50).map (fun i => (i.zero, i.size, i.bytes)) = some (some (.agg zB.toArray), 33, 56) := by kernel_rfl
theorem info_b {x : Bl} (h : OkB x) : (Tryz.prog.info? 50).map (·.size) = some (blL x).length := by rw [blL_length h]; exact infoB
def BlB (w : World) (b : Nat) (x : Bl) : Prop := w.heap[b]? = some (.cells (blL x).toArray 50 (0, 0))
theorem BlB.d {w : World} {b : Nat} {x : Bl} (h : BlB w b x) : w.rangeAt b 0 (x.d.map (Value.int .u8)) := range_row (pre := []) (post := [.slice x.sp x.n x.cap]) h (by simp [blL]) rfl
theorem BlB.all {w : World} {b : Nat} {x : Bl} (h : BlB w b x) : w.rangeAt b 0 (blL x) := range_row (pre := []) (post := []) h (by simp) rfl
theorem BlB.s {w : World} {b : Nat} {x : Bl} (h : BlB w b x) (hx : OkB x) : w.cell? ⟨b, 32, none⟩ = some (.slice x.sp x.n x.cap) := by
  have := range_row (pre := x.d.map (Value.int .u8)) (sub := [.slice x.sp x.n x.cap]) (post := []) (o := 32) h (by simp [blL]) (by rw [List.length_map, hx.1])
  exact this 0 _ rfl
theorem BlB.new (w : World) (x : Bl) : BlB (w.alloc (.cells (blL x).toArray 50)) w.heap.size x := heap_alloc_new w _
theorem BlB.below {w w' : World} {B b : Nat} {x : Bl} (h : BlB w b x) (hb : Below B w w') (hlt : b < B) : BlB w' b x := (hb.block b hlt).trans h
/-- its data -/
structure DatIn (w : World) (B : Nat) (x : Bl) : Prop where
  src : Src w B x.sp x.n x.cap x.b
  nil : x.sp = none → x.cap = 0
theorem DatIn.below {w w' : World} {B B' : Nat} {x : Bl} (h : DatIn w B x) (hb : Below B' w w') (hB : B ≤ B') : DatIn w' B' x := ⟨(h.src.below hb hB).more hB, h.nil⟩
theorem DatIn.up {w w' : World} {B : Nat} {x : Bl} (h : DatIn w B x) (hb : Below B w w') (hs : B ≤ w.heap.size) : DatIn w' w'.heap.size x := ⟨(h.src.below hb (Nat.le_refl _)).more (Nat.le_trans hs hb.size), h.nil⟩
structure BlsIn (w : World) (B : Nat) (sp : Option Addr) (n cap : Nat) (l : List Bl) : Prop where
  len : l.length = n
  ok : ∀ x ∈ l, OkB x
  dat : ∀ x ∈ l, DatIn w B x
  cells : 0 < n → ∃ b off, sp = some ⟨b, off, none⟩ ∧ b < B ∧ n ≤ cap ∧ ∀ i x, l[i]? = some x → w.rangeAt b (off + i * 33) (blL x)
theorem BlsIn.below {w w' : World} {B B' : Nat} {sp : Option Addr} {n cap : Nat} {l : List Bl} (h : BlsIn w B sp n cap l) (hb : Below B' w w') (hB : B ≤ B') : BlsIn w' B' sp n cap l :=
  ⟨h.len, h.ok, fun x hx => (h.dat x hx).below hb hB, fun hn => by
    obtain ⟨b, off, e, hlt, hc, hr⟩ := h.cells hn
    exact ⟨b, off, e, by omega, hc, fun i x hi => range_belowG (hr i x hi) hb (by omega)⟩⟩
theorem BlsIn.up {w w' : World} {B : Nat} {sp : Option Addr} {n cap : Nat} {l : List Bl} (h : BlsIn w B sp n cap l) (hb : Below B w w') (hs : B ≤ w.heap.size) : BlsIn w' w'.heap.size sp n cap l :=
  (h.below hb (Nat.le_refl _)).below (Below.refl w'.heap.size w') (Nat.le_trans hs hb.size)
theorem BlsIn.nil (w : World) (B : Nat) : BlsIn w B none 0 0 [] := ⟨rfl, fun x hx => (by cases hx), fun x hx => (by cases hx), fun h => by omega⟩
theorem rngB_d {w : World} {g o : Nat} {x : Bl} (h : w.rangeAt g o (blL x)) : w.rangeAt g o (x.d.map (Value.int .u8)) := fun j v hv => h j v (by
  have hj := (List.getElem?_eq_some_iff.1 hv).1
  unfold blL; rw [List.getElem?_append_left hj]; exact hv)
theorem rngB_s {w : World} {g o : Nat} {x : Bl} (h : w.rangeAt g o (blL x)) (hx : OkB x) : w.cell? ⟨g, o + 32, none⟩ = some (.slice x.sp x.n x.cap) := h 32 _ (by
  unfold blL; rw [List.getElem?_append_right (by rw [List.length_map, hx.1]; omega), List.length_map, hx.1]; rfl)
/-- the cells of a list -/
def rowsB (l : List Bl) : List Value := l.flatMap blL
theorem rowsB_snoc (l : List Bl) (x : Bl) : rowsB (l ++ [x]) = rowsB l ++ blL x := by simp [rowsB]
/-- a list that the call owns (its data may lie elsewhere) -/
def OwnB (w : World) (base : Nat) (v : Value) (l : List Bl) : Prop := w.ownsRow base 50 33 v l.length (rowsB l) ∧ ∀ x ∈ l, OkB x
theorem OwnB.bls {w : World} {base : Nat} {sp : Option Addr} {n cap : Nat} {l : List Bl} (h : OwnB w base (.slice sp n cap) l) (hn : l.length = n) (hd : ∀ x ∈ l, DatIn w w.heap.size x) : BlsIn w w.heap.size sp n cap l := by
  refine ⟨hn, h.2, hd, fun h0 => ?_⟩
  have h1 := h.1
  obtain ⟨_, ⟨e, e0⟩ | ⟨g, cap', cur, e, _⟩⟩ := h.1
  · omega
  · injection e with e1 e2 e3
    subst e1
    obtain ⟨hg, hc, hr⟩ := own_rangeG (f := blL) h1 (fun x hx => blL_length (h.2 x hx)) hn
    exact ⟨g, 0, rfl, hg, hc, hr⟩
theorem OwnB.below {w w' : World} {base : Nat} {v : Value} {l : List Bl} (h : OwnB w base v l) (hb : Below w.heap.size w w') : OwnB w' base v l := ⟨own_belowG h.1 hb, h.2⟩
theorem OwnB.nil (w : World) (base : Nat) : OwnB w base (.slice none 0 0) [] := ⟨World.ownsRow_nil w base _ _, by simp⟩
theorem OwnB.base {w : World} {b b' : Nat} {v : Value} {l : List Bl} (h : OwnB w b v l) (hb : b' ≤ b) : OwnB w b' v l := by
  refine ⟨?_, h.2⟩
  obtain ⟨hl, h1 | ⟨g, cap, cur, e, hbg, rest⟩⟩ := h.1
  · exact ⟨hl, .inl h1⟩
  · exact ⟨hl, .inr ⟨g, cap, cur, e, Nat.le_trans hb hbg, rest⟩⟩
theorem OwnB.nilcap {w : World} {base n cap : Nat} {sp : Option Addr} {l : List Bl} (h : OwnB w base (.slice sp n cap) l) : sp = none → cap = 0 := by
  rintro rfl
  obtain ⟨_, ⟨e, _⟩ | ⟨g, c, u, e, _⟩⟩ := h.1
  · cases e; rfl
  · cases e
/-- append(own, x) -/
theorem wpList_append_bl {w : World} {ops : Array Oper} {rest : List Oper} {o : Oper} {a : Act} {Q : Exit → Act → World → Prop} (hgd : o.guard = none) (s x : Operand)
    (ho : o.op = .call { callee := .builtin .append, args := #[s, x], argTypes := #[24, 24] }) (base : Nat) (v : Value) (l : List Bl) (n : Nat) (hn : n = l.length) (hs : a.eval s = v) (hown : OwnB w base v l)
    (g : Nat) (y : Bl) (hx : a.eval x = .slice (some ⟨g, 0, none⟩) 1 1) (hy : BlB w g y) (hok : OkB y) (hlen : n ≤ 1000000) (hbase : base ≤ w.heap.size)
    (h : ∀ sp cap w', Hid (OwnB w' base (.slice sp (n + 1) cap) (l ++ [y])) → Hid (Below base w w') → Hid (w.grownBy w' v.ownBlock) → wpList Tryz.prog ops Q rest (a.put o.dst (.slice sp (n + 1) cap)) w') : wpList Tryz.prog ops Q (o :: rest) a w := by
  subst hn
  obtain ⟨i0, hi0, hz0, hz1, hz2⟩ := info_parts infoB3
  refine wpList_append_own w hgd s x _ ho base _ i0 _ 33 56 Tryz.underlying24 hi0 hz0 hz1 hz2 rfl (by decide) v l.length _ hs hown.1 ⟨g, 0, none⟩ 1 1 (blL y) hx (by rw [blL_length hok]) ?_ (blL_one y) (by unfold maxLen; omega) (by omega) hbase ?_
  · intro j u hj
    rw [Addr.add_mid]
    exact hy.all j u hj
  · intro v' w' h1 h2 _
    obtain ⟨sp, cap, rfl⟩ := own_shapeG h1
    refine h sp cap w' ⟨by rw [rowsB_snoc, List.length_append]; exact h1, fun z hz => ?_⟩ ((Below.refl base w).grown h2 hbase (own_baseG hown.1)) h2
    rcases List.mem_append.1 hz with hz | hz
    · exact hown.2 z hz
    · rw [List.mem_singleton.1 hz]; exact hok
theorem zeroB : (Tryz.prog.info? 50).map (·.zero) = some (some (.agg zB.toArray)) := by kernel_rfl
theorem sliceB (w : World) (x : Bl) (hx : OkB x) : (Instr.buildSlice 24 1 #[(0, .agg (blL x).toArray)]).run Tryz.prog w = .ok (.slice (some ⟨w.heap.size, 0, none⟩) 1 1) (w.alloc (.cells (blL x).toArray 50)) := by
  have h := blL_length hx
  have hz := zeroB
  have hi := infoB
  cases hie : Tryz.prog.info? 50 with
  | none => rw [hie] at hi; cases hi
  | some ie =>
    rw [hie] at hi hz
    exact slice_one w _ _ _ ie _ Tryz.underlying24 hie (by injection hz) (by rw [h]; injection hi) (by omega) (by omega)
set_option maxRecDepth 100000 in
theorem buildB (x : Bl) (hx : OkB x) (w : World) :
    (Instr.build 50 #[(0, .agg (x.d.map (Value.int .u8)).toArray), (1, .slice x.sp x.n x.cap)]).run Tryz.prog w = .ok (.agg (blL x).toArray) w := by
  refine run_build w _ _ _ ?_
  rw [built_fill zeroB Tryz.underlying50 (places := [(0, 32), (32, 1)]) (by kernel_rfl)]
  show Instr.fill _ ([] ++ (List.replicate 32 (Value.int .u8 0) ++ [Value.slice none 0 0])).toArray [(0, .agg (x.d.map (Value.int .u8)).toArray), (1, Value.slice x.sp x.n x.cap)] = _
  rw [fill_put (x.d.map (Value.int .u8)) [] (List.replicate 32 (Value.int .u8 0)) [Value.slice none 0 0] rfl rfl (by simp [hx.1]) rfl (by simp), List.nil_append]
  rw [show x.d.map (Value.int .u8) ++ [Value.slice none 0 0] = x.d.map (Value.int .u8) ++ ([Value.slice none 0 0] ++ []) by simp]
  rw [fill_put [Value.slice x.sp x.n x.cap] (x.d.map (Value.int .u8)) [Value.slice none 0 0] [] (off := 32) (sz := 1) rfl rfl rfl (by rw [List.length_map, hx.1]) rfl]
  simp [Instr.fill, blL]
end Go.Proofs.YtdjknefbaclleaaGreatDoor

namespace Go.Proofs.YtdjknefbaclleaaGreatDoor
open Go.RowKit

/-- the order of lists of numbers, number by number -/
def dls : List Int → List Int → Bool
  | [], [] => false
  | [], _ :: _ => true
  | _ :: _, [] => false
  | x :: a, y :: b => if x = y then dls a b else decide (x < y)
theorem dls_irrefl : ∀ a : List Int, dls a a = false
  | [] => rfl
  | x :: a => by rw [dls, if_pos rfl]; exact dls_irrefl a
theorem dls_trans : ∀ {a b c : List Int}, dls a b = true → dls b c = true → dls a c = true
  | [], [], c, h, _ => by simp [dls] at h
  | [], _ :: _, [], _, k => by simp [dls] at k
  | [], _ :: _, _ :: _, _, _ => rfl
  | _ :: _, [], _, h, _ => by simp [dls] at h
  | _ :: _, _ :: _, [], _, k => by simp [dls] at k
  | x :: a, y :: b, z :: c, h, k => by
    rw [dls] at h k ⊢
    by_cases h1 : x = y
    · subst h1
      rw [if_pos rfl] at h
      by_cases h2 : x = z
      · subst h2
        rw [if_pos rfl] at k ⊢
        exact dls_trans h k
      · rw [if_neg h2] at k ⊢; exact k
    · rw [if_neg h1] at h
      have h1' := of_decide_eq_true h
      by_cases h2 : y = z
      · subst h2
        rw [if_neg h1]; exact h
      · rw [if_neg h2] at k
        have k' := of_decide_eq_true k
        rw [if_neg (by omega)]
        exact decide_eq_true (by omega)
theorem dls_tri : ∀ {a b : List Int}, dls a b = false → dls b a = false → a = b
  | [], [], _, _ => rfl
  | [], _ :: _, h, _ => by simp [dls] at h
  | _ :: _, [], _, k => by simp [dls] at k
  | x :: a, y :: b, h, k => by
    rw [dls] at h k
    by_cases h1 : x = y
    · subst h1
      rw [if_pos rfl] at h k
      rw [dls_tri h k]
    · rw [if_neg h1] at h
      rw [if_neg (Ne.symm h1)] at k
      have h' := of_decide_eq_false h
      have k' := of_decide_eq_false k
      omega
theorem dls_asymm {a b : List Int} (h : dls a b = true) : dls b a = false := by
  rw [Bool.eq_false_iff]; intro k
  have := dls_trans h k
  rw [dls_irrefl] at this; cases this
theorem dls_ne {a b : List Int} (h : dls a b = true) : a ≠ b := fun e => by rw [e, dls_irrefl] at h; cases h
/-- one place more that is the same -/
theorem dls_step {a b : List Int} {k : Nat} {x y : Int} (h : dls a b = dls (a.drop k) (b.drop k)) (hx : a[k]? = some x) (hy : b[k]? = some y) :
    (x = y → dls a b = dls (a.drop (k + 1)) (b.drop (k + 1))) ∧ (x ≠ y → dls a b = decide (x < y)) := by
  obtain ⟨h1, rfl⟩ := List.getElem?_eq_some_iff.1 hx
  obtain ⟨h2, rfl⟩ := List.getElem?_eq_some_iff.1 hy
  rw [h, List.drop_eq_getElem_cons h1, List.drop_eq_getElem_cons h2]
  exact ⟨fun e => by rw [dls, if_pos e], fun e => by rw [dls, if_neg e]⟩
theorem cmpBy_lt : ∀ (a b : List Int), (∀ x ∈ a, 0 ≤ x ∧ x < 256) → (∀ x ∈ b, 0 ≤ x ∧ x < 256) → decide (Lib.compareBytes (Lib.bytesOf a) (Lib.bytesOf b) < 0) = dls a b
  | [], [], _, _ => rfl
  | [], _ :: _, _, _ => rfl
  | _ :: _, [], _, _ => rfl
  | x :: a, y :: b, ha, hb => by
    have h1 := ha x (by simp)
    have h2 := hb y (by simp)
    have ih := cmpBy_lt a b (fun z hz => ha z (by simp [hz])) (fun z hz => hb z (by simp [hz]))
    have n1 : (UInt8.ofNat x.toNat).toNat = x.toNat := by simp; omega
    have n2 : (UInt8.ofNat y.toNat).toNat = y.toNat := by simp; omega
    have hlt : ((UInt8.ofNat x.toNat) < (UInt8.ofNat y.toNat)) ↔ x < y := by rw [UInt8.lt_iff_toNat_lt, n1, n2]; omega
    have hgt : ((UInt8.ofNat y.toNat) < (UInt8.ofNat x.toNat)) ↔ y < x := by rw [UInt8.lt_iff_toNat_lt, n1, n2]; omega
    show decide ((if UInt8.ofNat x.toNat < UInt8.ofNat y.toNat then (-1 : Int) else if UInt8.ofNat y.toNat < UInt8.ofNat x.toNat then 1 else Lib.compareBytes (Lib.bytesOf a) (Lib.bytesOf b)) < 0) = _
    rw [dls]
    by_cases c1 : x < y
    · rw [if_pos (hlt.2 c1), if_neg (by omega)]; simp [c1]
    · rw [if_neg (fun h => c1 (hlt.1 h))]
      by_cases c2 : y < x
      · rw [if_pos (hgt.2 c2), if_neg (by omega)]; simp; omega
      · rw [if_neg (fun h => c2 (hgt.1 h)), if_pos (by omega)]; exact ih
theorem cmpBy_zero : ∀ (a b : List Int), (∀ x ∈ a, 0 ≤ x ∧ x < 256) → (∀ x ∈ b, 0 ≤ x ∧ x < 256) → decide (Lib.compareBytes (Lib.bytesOf a) (Lib.bytesOf b) ≥ 0) = !dls a b := by
  intro a b ha hb
  rw [← cmpBy_lt a b ha hb]
  by_cases h : Lib.compareBytes (Lib.bytesOf a) (Lib.bytesOf b) < 0
  · rw [decide_eq_true h, decide_eq_false (by omega)]; rfl
  · rw [decide_eq_false h, decide_eq_true (by omega)]; rfl
/-- the entry of bytes.Compare at two rows -/
theorem run_compareRows {P : Program} {w : World} (b1 o1 n1 c1 : Nat) (xs : List Int) (b2 o2 n2 c2 : Nat) (ys : List Int) (hx : xs.length = n1) (hy : ys.length = n2)
    (h1 : ∀ i, i < n1 → w.cell? ⟨b1, o1 + i, none⟩ = some (.int .u8 (xs.getD i 0))) (h2 : ∀ i, i < n2 → w.cell? ⟨b2, o2 + i, none⟩ = some (.int .u8 (ys.getD i 0))) :
    (Extern.BytealgCompare.compare #[.slice (some ⟨b1, o1, none⟩) n1 c1, .slice (some ⟨b2, o2, none⟩) n2 c2]).run P w = .ok (.int .i64 (Lib.compareBytes (Lib.bytesOf xs) (Lib.bytesOf ys))) w := by
  have hl : ∀ (b off n : Nat) (zs : List Int), zs.length = n → (∀ i, i < n → w.cell? ⟨b, off + i, none⟩ = some (.int .u8 (zs.getD i 0))) → (Extern.Bytes.loadBytes ⟨b, off, none⟩ n .empty).run P w = .ok ⟨(Lib.bytesOf zs).toArray⟩ w := by
    intro b off n zs hz hc
    have h := Lib.run_loadBytesX (P := P) w zs ⟨b, off, none⟩ .empty (fun j x hj => by
      have hjl : j < zs.length := (List.getElem?_eq_some_iff.1 hj).1
      rw [Addr.add_mid, hc j (by omega), List.getD_eq_getElem?_getD, hj]; rfl)
    rw [hz] at h
    rw [h]
    congr 1
    apply ByteArray.ext
    show (#[] : Array UInt8) ++ (Lib.bytesOf zs).toArray = (Lib.bytesOf zs).toArray
    simp
  have e1 := hl b1 o1 n1 xs hx h1
  have e2 := hl b2 o2 n2 ys hy h2
  have hs := Lib.run_compareString (P := P) ⟨(Lib.bytesOf xs).toArray⟩ ⟨(Lib.bytesOf ys).toArray⟩ w
  change Sem.run P (do pure (goInt (Extern.BytealgCompare.cmp (← Extern.Bytes.bytesOf (.string ⟨(Lib.bytesOf xs).toArray⟩)) (← Extern.Bytes.bytesOf (.string ⟨(Lib.bytesOf ys).toArray⟩))))) w = _ at hs
  change Sem.run P (do pure (goInt (Extern.BytealgCompare.cmp (← Extern.Bytes.bytesOf (.slice (some ⟨b1, o1, none⟩) n1 c1)) (← Extern.Bytes.bytesOf (.slice (some ⟨b2, o2, none⟩) n2 c2))))) w = _
  simp only [Extern.Bytes.bytesOf, Sem.run_bind, Sem.run_pure, e1, e2, Result.andThen] at hs ⊢
  exact hs

/-- a store: its digests and their data -/
abbrev Pr := List Int × List Int
def ascD : List Pr → Bool
  | [] => true
  | [_] => true
  | x :: y :: l => dls x.1 y.1 && ascD (y :: l)
/-- whether each of the first k steps goes up -/
def uptoD (l : List Pr) (k : Nat) : Bool := (List.range k).all fun i => match l[i]?, l[i + 1]? with
  | some x, some y => dls x.1 y.1
  | _, _ => true
theorem uptoD_succ (l : List Pr) (k : Nat) {x y : Pr} (hx : l[k]? = some x) (hy : l[k + 1]? = some y) : uptoD l (k + 1) = (uptoD l k && dls x.1 y.1) := by
  unfold uptoD
  rw [List.range_succ, List.all_append]
  simp [hx, hy]
def srtD (l : List Pr) : Prop := l.Pairwise fun x y => dls x.1 y.1 = true
/-- valid stores -/
def vldP (l : List Pr) : Bool := decide (l.length ≤ 256) && uptoD l (l.length - 1) && l.all fun x => decide (x.2.length ≤ 262144)
theorem uptoD_srt {l : List Pr} (h : uptoD l (l.length - 1) = true) : srtD l := by
  unfold uptoD at h
  rw [List.all_eq_true] at h
  have step : ∀ i (hi : i + 1 < l.length), dls l[i].1 l[i + 1].1 = true := by
    intro i hi
    have := h i (List.mem_range.2 (by omega))
    rw [List.getElem?_eq_getElem (by omega), List.getElem?_eq_getElem hi] at this
    exact this
  unfold srtD
  rw [List.pairwise_iff_getElem]
  intro i j hi hj hij
  obtain ⟨d, rfl⟩ : ∃ d, j = i + 1 + d := ⟨j - (i + 1), by omega⟩
  clear hij
  induction d with
  | zero => exact step i hj
  | succ d ih => exact dls_trans (ih (by omega)) (step (i + 1 + d) (by omega))
theorem srtD_upto {l : List Pr} (h : srtD l) (k : Nat) : uptoD l k = true := by
  unfold uptoD
  rw [List.all_eq_true]
  intro i _
  cases h1 : l[i]? with
  | none => rfl
  | some x =>
    cases h2 : l[i + 1]? with
    | none => rfl
    | some y =>
      obtain ⟨a1, rfl⟩ := List.getElem?_eq_some_iff.1 h1
      obtain ⟨a2, rfl⟩ := List.getElem?_eq_some_iff.1 h2
      exact List.pairwise_iff_getElem.1 h i (i + 1) a1 a2 (by omega)
end Go.Proofs.YtdjknefbaclleaaGreatDoor

namespace Go.Proofs.YtdjknefbaclleaaGreatDoor
open Go.RowKit

theorem cellB_newG (w : World) (t : TypeId) (a : List Int) (i : Nat) (h : i < a.length) : (w.alloc (.cells (a.map (Value.int .u8)).toArray t)).cell? ⟨w.heap.size, i, none⟩ = some (.int .u8 (a.getD i 0)) := by
  rw [cell_of_row _ w.heap.size i _ t _ (heap_alloc_new w _)]
  simpa using getD_map a (Value.int .u8) i 0 h
theorem ret_boolG {a b : Bool} (h : a = b) : Ending.returned (.bool a) = Ending.returned (.bool b) := by rw [h]
/-- the digest of some bytes -/
def shb (b : List Int) : List Int := dbytes (sha b).list
theorem shb_len (b : List Int) : (shb b).length = 32 := by simp [shb, dbytes_length, St.list_length]
theorem dg_shb (b : List Int) : dg b = ((shb b).map (Value.int .u8)).toArray := rfl
/-- the digests that are not those of their data -/
def audP (l : List Pr) : List (List Int) := (l.filter fun x => decide (x.1 ≠ shb x.2)).map (·.1)
theorem audP_take_add {l : List Pr} {k : Nat} {x : Pr} (hx : l[k]? = some x) (h : x.1 ≠ shb x.2) : audP (l.take (k + 1)) = audP (l.take k) ++ [x.1] := by
  unfold audP; rw [List.take_add_one, hx]; simp [h]
theorem audP_take_skip {l : List Pr} {k : Nat} {x : Pr} (hx : l[k]? = some x) (h : x.1 = shb x.2) : audP (l.take (k + 1)) = audP (l.take k) := by
  unfold audP; rw [List.take_add_one, hx]; simp [h]
theorem audP_le (l : List Pr) : (audP l).length ≤ l.length := by unfold audP; rw [List.length_map]; exact List.length_filter_le _ _
theorem audP_le_k (l : List Pr) (k : Nat) : (audP (l.take k)).length ≤ k := Nat.le_trans (audP_le _) (by rw [List.length_take]; omega)
theorem audP_nil {l : List Pr} (h : ∀ x ∈ l, x.1 = shb x.2) : audP l = [] := by
  unfold audP
  rw [List.filter_eq_nil_iff.2 (fun x hx => by simp [h x hx])]; rfl
theorem audP_mem {l : List Pr} {d : List Int} (h : d ∈ audP l) : ∃ x ∈ l, x.1 = d := by
  unfold audP at h
  obtain ⟨x, hx, rfl⟩ := List.mem_map.1 h
  exact ⟨x, (List.mem_filter.1 hx).1, rfl⟩
/-- a store with right digests -/
structure GoodP (l : List Pr) : Prop where
  srt : srtD l
  aud : ∀ x ∈ l, x.1 = shb x.2
  sz : ∀ x ∈ l, x.2.length ≤ 262144
theorem GoodP.nil : GoodP [] := ⟨List.Pairwise.nil, fun x h => (by cases h), fun x h => (by cases h)⟩
theorem GoodP.vld {l : List Pr} (h : GoodP l) (hn : l.length ≤ 256) : vldP l = true := by
  unfold vldP
  rw [decide_eq_true hn, srtD_upto h.srt, List.all_eq_true.2 (fun x hx => decide_eq_true (h.sz x hx))]; rfl
theorem srt_ins {l : List Pr} {x : Pr} {k : Nat} (h : srtD l) (h1 : ∀ y ∈ l.take k, dls y.1 x.1 = true) (h2 : ∀ y, l[k]? = some y → dls y.1 x.1 = false) (hn : ∀ y ∈ l, y.1 ≠ x.1) : srtD (l.take k ++ x :: l.drop k) := by
  have h' : srtD (l.take k ++ l.drop k) := by rw [List.take_append_drop]; exact h
  unfold srtD at h' ⊢
  rw [List.pairwise_append] at h' ⊢
  refine ⟨h'.1, List.pairwise_cons.2 ⟨?_, h'.2.1⟩, ?_⟩
  · intro y hy
    by_cases hk : k < l.length
    · have e : l.drop k = l[k] :: l.drop (k + 1) := List.drop_eq_getElem_cons hk
      have hf := h2 l[k] (List.getElem?_eq_getElem hk)
      have hx : dls x.1 l[k].1 = true := by
        rw [← Bool.not_eq_false]; intro hc
        exact hn l[k] (List.getElem_mem hk) (dls_tri hf hc)
      rw [e] at hy h'
      rcases List.mem_cons.1 hy with rfl | hy
      · exact hx
      · exact dls_trans hx ((List.pairwise_cons.1 h'.2.1).1 y hy)
    · rw [List.drop_eq_nil_of_le (by omega)] at hy; cases hy
  · intro y hy z hz
    rcases List.mem_cons.1 hz with rfl | hz
    · exact h1 y hy
    · exact h'.2.2 y hy z hz
theorem GoodP.ins {l : List Pr} {x : Pr} {k : Nat} (h : GoodP l) (hd : x.1 = shb x.2) (hs : x.2.length ≤ 262144) (h1 : ∀ y ∈ l.take k, dls y.1 x.1 = true) (h2 : ∀ y, l[k]? = some y → dls y.1 x.1 = false) (hn : ∀ y ∈ l, y.1 ≠ x.1) : GoodP (l.take k ++ x :: l.drop k) := by
  refine ⟨srt_ins h.srt h1 h2 hn, fun y hy => ?_, fun y hy => ?_⟩ <;> rcases List.mem_append.1 hy with hy | hy
  · exact h.aud y (List.mem_of_mem_take hy)
  · rcases List.mem_cons.1 hy with rfl | hy
    · exact hd
    · exact h.aud y (List.mem_of_mem_drop hy)
  · exact h.sz y (List.mem_of_mem_take hy)
  · rcases List.mem_cons.1 hy with rfl | hy
    · exact hs
    · exact h.sz y (List.mem_of_mem_drop hy)
/-- the first bytes of the digest of abc -/
theorem abc_first : (shb [97, 98, 99]).getD 0 0 = 186 := by decide +kernel
end Go.Proofs.YtdjknefbaclleaaGreatDoor

namespace Go.Proofs.YtdjknefbaclleaaGreatDoor
open Go.RowKit

def rowsDg (l : List (List Int)) : List Value := l.flatMap fun d => d.map (Value.int .u8)
theorem rowsDg_snoc (l : List (List Int)) (x : List Int) : rowsDg (l ++ [x]) = rowsDg l ++ x.map (Value.int .u8) := by simp [rowsDg]
def OwnDg (w : World) (base : Nat) (v : Value) (l : List (List Int)) : Prop := w.ownsRow base 29 32 v l.length (rowsDg l) ∧ ∀ x ∈ l, D32 x
theorem OwnDg.nil (w : World) (base : Nat) : OwnDg w base (.slice none 0 0) [] := ⟨World.ownsRow_nil w base _ _, by simp⟩
theorem OwnDg.below {w w' : World} {base : Nat} {v : Value} {l : List (List Int)} (h : OwnDg w base v l) (hb : Below w.heap.size w w') : OwnDg w' base v l := ⟨own_belowG h.1 hb, h.2⟩
theorem OwnDg.digs {w : World} {base : Nat} {sp : Option Addr} {n cap : Nat} {l : List (List Int)} (h : OwnDg w base (.slice sp n cap) l) (hn : l.length = n) : DigsIn w w.heap.size sp n cap l := by
  refine ⟨hn, fun x hx => ⟨(h.2 x hx).1, (h.2 x hx).2⟩, fun h0 => ?_⟩
  have h1 := h.1
  obtain ⟨_, ⟨e, e0⟩ | ⟨g, cap', cur, e, _⟩⟩ := h.1
  · omega
  · injection e with e1 e2 e3
    subst e1
    obtain ⟨hg, hc, hr⟩ := own_rangeG (f := fun d : List Int => d.map (Value.int .u8)) h1 (fun x hx => by rw [List.length_map, (h.2 x hx).1]) hn
    refine ⟨g, 0, rfl, hg, hc, fun i hi => ?_⟩
    exact hr i _ (by rw [List.getD_eq_getElem?_getD, List.getElem?_eq_getElem (by omega)]; rfl)
theorem infoD3 : (Tryz.prog.info? 29).map (fun i => (i.zero, i.size, i.bytes)) = some (some (.agg (List.replicate 32 (Value.int .u8 0)).toArray), 32, 32) := by kernel_rfl
/-- append(own, x) -/
theorem wpList_append_dg {w : World} {ops : Array Oper} {rest : List Oper} {o : Oper} {a : Act} {Q : Exit → Act → World → Prop} (hgd : o.guard = none) (s x : Operand)
    (ho : o.op = .call { callee := .builtin .append, args := #[s, x], argTypes := #[25, 25] }) (base : Nat) (v : Value) (l : List (List Int)) (n : Nat) (hn : n = l.length) (hs : a.eval s = v) (hown : OwnDg w base v l)
    (g : Nat) (y : List Int) (hx : a.eval x = .slice (some ⟨g, 0, none⟩) 1 1) (hy : w.rangeAt g 0 (y.map (Value.int .u8))) (hok : D32 y) (hlen : n ≤ 1000000) (hbase : base ≤ w.heap.size)
    (h : ∀ sp cap w', Hid (OwnDg w' base (.slice sp (n + 1) cap) (l ++ [y])) → Hid (Below base w w') → Hid (w.grownBy w' v.ownBlock) → wpList Tryz.prog ops Q rest (a.put o.dst (.slice sp (n + 1) cap)) w') : wpList Tryz.prog ops Q (o :: rest) a w := by
  subst hn
  obtain ⟨i0, hi0, hz0, hz1, hz2⟩ := info_parts infoD3
  refine wpList_append_own w hgd s x _ ho base _ i0 _ 32 32 Tryz.underlying25 hi0 hz0 hz1 hz2 rfl (by decide) v l.length _ hs hown.1 ⟨g, 0, none⟩ 1 1 (y.map (Value.int .u8)) hx (by rw [List.length_map, hok.1]) ?_ (one_map _ _) (by unfold maxLen; omega) (by omega) hbase ?_
  · intro j u hj
    rw [Addr.add_mid]
    exact hy j u hj
  · intro v' w' h1 h2 _
    obtain ⟨sp, cap, rfl⟩ := own_shapeG h1
    refine h sp cap w' ⟨by rw [rowsDg_snoc, List.length_append]; exact h1, fun z hz => ?_⟩ ((Below.refl base w).grown h2 hbase (own_baseG hown.1)) h2
    rcases List.mem_append.1 hz with hz | hz
    · exact hown.2 z hz
    · rw [List.mem_singleton.1 hz]; exact hok
theorem zeroDg : (Tryz.prog.info? 29).map (·.zero) = some (some (.agg (List.replicate 32 (Value.int .u8 0)).toArray)) := by kernel_rfl
theorem sliceDg (w : World) (x : List Int) (hx : D32 x) : (Instr.buildSlice 25 1 #[(0, .agg (dv x))]).run Tryz.prog w = .ok (.slice (some ⟨w.heap.size, 0, none⟩) 1 1) (w.alloc (.cells (dv x) 29)) := by
  have h : (x.map (Value.int .u8)).length = 32 := by rw [List.length_map, hx.1]
  have hz := zeroDg
  have hi := infoD
  cases hie : Tryz.prog.info? 29 with
  | none => rw [hie] at hi; cases hi
  | some ie =>
    rw [hie] at hi hz
    exact slice_one w _ _ _ ie _ Tryz.underlying25 hie (by injection hz) (by rw [h]; injection hi) (by omega) (by omega)
end Go.Proofs.YtdjknefbaclleaaGreatDoor

namespace Go.Proofs.YtdjknefbaclleaaGreatDoor
open Go.RowKit

theorem flat_getG {α : Type} (f : α → List Value) (sz : Nat) (h0 : 0 < sz) : ∀ (l : List α), (∀ x ∈ l, (f x).length = sz) → ∀ (j : Nat) (v : Value), (l.flatMap f)[j]? = some v → ∃ x, l[j / sz]? = some x ∧ (f x)[j % sz]? = some v
  | [], _, j, v, hj => by simp at hj
  | y :: l, h, j, v, hj => by
    have hy := h y (by simp)
    rw [List.flatMap_cons] at hj
    by_cases hlt : j < sz
    · rw [List.getElem?_append_left (by omega)] at hj
      exact ⟨y, by rw [Nat.div_eq_of_lt hlt]; rfl, by rw [Nat.mod_eq_of_lt hlt]; exact hj⟩
    · rw [List.getElem?_append_right (by omega), hy] at hj
      obtain ⟨x, h1, h2⟩ := flat_getG f sz h0 l (fun z hz => h z (by simp [hz])) (j - sz) v hj
      refine ⟨x, ?_, ?_⟩
      · rw [Nat.div_eq_sub_div h0 (by omega), List.getElem?_cons_succ]; exact h1
      · rw [Nat.mod_eq_sub_mod (by omega)]; exact h2
theorem flat_lenG {α : Type} (f : α → List Value) (sz : Nat) : ∀ (l : List α), (∀ x ∈ l, (f x).length = sz) → (l.flatMap f).length = l.length * sz
  | [], _ => by simp
  | y :: l, h => by
    rw [List.flatMap_cons, List.length_append, h y (by simp), flat_lenG f sz l (fun z hz => h z (by simp [hz])), List.length_cons, Nat.add_mul]; omega
theorem rowsB_one {l : List Bl} : ∀ u ∈ rowsB l, u.oneCell' = true := fun u hu => by
  obtain ⟨x, _, hx⟩ := List.mem_flatMap.1 hu
  exact blL_one x u hx
theorem rowsB_append (l l2 : List Bl) : rowsB (l ++ l2) = rowsB l ++ rowsB l2 := by simp [rowsB]
set_option maxRecDepth 100000 in
/-- append(own, list...) -/
theorem wpList_append_bls {w : World} {ops : Array Oper} {rest : List Oper} {o : Oper} {a : Act} {Q : Exit → Act → World → Prop} (hgd : o.guard = none) (s x : Operand)
    (ho : o.op = .call { callee := .builtin .append, args := #[s, x], argTypes := #[24, 24] }) (base : Nat) (v : Value) (l : List Bl) (n : Nat) (hn : n = l.length) (hs : a.eval s = v) (hown : OwnB w base v l)
    (sp2 : Option Addr) (m cap2 B : Nat) (l2 : List Bl) (hx : a.eval x = .slice sp2 m cap2) (hsrc : BlsIn w B sp2 m cap2 l2) (hnil : sp2 = none → cap2 = 0) (hlen : n + m ≤ 1000000) (hbase : base ≤ w.heap.size)
    (h : ∀ sp cap w', Hid (OwnB w' base (.slice sp (n + m) cap) (l ++ l2)) → Hid (Below base w w') → Hid (w.grownBy w' v.ownBlock) → wpList Tryz.prog ops Q rest (a.put o.dst (.slice sp (n + m) cap)) w') : wpList Tryz.prog ops Q (o :: rest) a w := by
  subst hn
  obtain ⟨i0, hi0, hz0, hz1, hz2⟩ := info_parts infoB3
  have hl2 := hsrc.len
  cases sp2 with
  | none =>
    have hm : m = 0 := by
      by_cases h0 : 0 < m
      · obtain ⟨_, _, e, _⟩ := hsrc.cells h0; cases e
      · omega
    subst hm
    have e2 : l2 = [] := List.eq_nil_of_length_eq_zero hl2
    subst e2
    rw [hnil rfl] at hx
    obtain ⟨sp, cap, rfl⟩ := own_shapeG hown.1
    refine wpList_append_own_none hgd s x _ ho base _ i0 33 Tryz.underlying24 hi0 _ l.length _ hs hown.1 hx ?_
    exact h sp cap w (by show OwnB _ _ _ _; simpa using hown) (Below.refl _ _) (World.grownBy.refl _ _)
  | some ad =>
    refine wpList_append_own w hgd s x _ ho base _ i0 _ 33 56 Tryz.underlying24 hi0 hz0 hz1 hz2 rfl (by decide) v l.length _ hs hown.1 ad m cap2 (rowsB l2) hx (by rw [← hl2]; exact flat_lenG blL 33 l2 (fun z hz => blL_length (hsrc.ok z hz))) ?_ rowsB_one (by unfold maxLen; omega) (by omega) hbase ?_
    · intro j u hj
      obtain ⟨y, h1, h2⟩ := flat_getG blL 33 (by decide) l2 (fun z hz => blL_length (hsrc.ok z hz)) j u hj
      have hlt := (List.getElem?_eq_some_iff.1 h1).1
      obtain ⟨b, off, e, _, _, hr⟩ := hsrc.cells (by omega)
      injection e with e; subst e
      have := hr _ y h1 _ u h2
      rw [Addr.add_mid]
      rw [show off + j = off + j / 33 * 33 + j % 33 by omega]
      exact this
    · intro v' w' h1 h2 _
      obtain ⟨sp, cap, rfl⟩ := own_shapeG h1
      refine h sp cap w' ⟨by rw [rowsB_append, List.length_append, hl2]; exact h1, fun z hz => ?_⟩ ((Below.refl base w).grown h2 hbase (own_baseG hown.1)) h2
      rcases List.mem_append.1 hz with hz | hz
      · exact hown.2 z hz
      · exact hsrc.ok z hz
/-- the elements from a place on -/
theorem BlsIn.drops {w : World} {B b off n cap : Nat} {l : List Bl} (h : BlsIn w B (some ⟨b, off, none⟩) n cap l) (k : Nat) (hk : k ≤ n) : BlsIn w B (some ⟨b, off + k * 33, none⟩) (n - k) (cap - k) (l.drop k) :=
  ⟨by rw [List.length_drop, h.len], fun x hx => h.ok x (List.mem_of_mem_drop hx), fun x hx => h.dat x (List.mem_of_mem_drop hx), fun hn => by
    obtain ⟨b', off', e, hlt, hc, hr⟩ := h.cells (by omega)
    injection e with e; injection e with e1 e2; subst e1 e2
    refine ⟨b, off + k * 33, rfl, hlt, by omega, fun i x hi => ?_⟩
    rw [List.getElem?_drop] at hi
    have := hr (k + i) x hi
    rwa [show off + (k + i) * 33 = off + k * 33 + i * 33 by omega] at this⟩
theorem BlsIn.at {w : World} {B g off n cap : Nat} {l : List Bl} (h : BlsIn w B (some ⟨g, off, none⟩) n cap l) {i : Nat} {x : Bl} (hi : l[i]? = some x) : g < B ∧ w.rangeAt g (off + i * 33) (blL x) := by
  have hl := (List.getElem?_eq_some_iff.1 hi).1
  obtain ⟨b, o, e, hb, _, hr⟩ := h.cells (by have := h.len; omega)
  injection e with e; injection e with e1 e2; subst e1 e2
  exact ⟨hb, hr i x hi⟩
end Go.Proofs.YtdjknefbaclleaaGreatDoor
