/-
  The walk of digest.Half (conditions: the table of constants reads as it is laid; the parts read as lists of bytes).
-/
import Derived.Test.YtcligodahogpkaaGreatDoorZip
import Derived.Test.YtcligodahogpkaaGreatDoorGg
import Derived.Laws.Tables
import Derived.Great.BuildSlice
import Derived.Below
import Derived.Test.YtcligodahogpkaaGreatDoorChecked
import Derived.OwnWalk
import Derived.Laws.AppendOwn
set_option maxRecDepth 100000
set_option maxHeartbeats 8000000
namespace Go.Proofs.YtcligodahogpkaaGreatDoor
open Go.RowKit
theorem yP (pa : Option Addr) (np ncap : Nat) (ps : List Part) (w : World) (hp : PartsIn w w.heap.size pa np ps) (hk : KayIn w) (hk0 : 1 < w.heap.size) (hbd : (cat ps).length ≤ 1099511627776) (hnp : np ≤ 1099511627776) :
 Calls Tryz.prog 132 #[.slice pa np ncap] w (MF w (cat ps)) := by
 have HK := zh hk; clear hk
 have HP := zh hp; clear hp
 have HN := zh (heap_alloc_new w (.cells (Array.replicate 16 (Value.int .u8 0)) 54))
 have HB := zh (aB w (.cells (Array.replicate 16 (Value.int .u8 0)) 54))
 have HS := zh (aK w (.cells (Array.replicate 16 (Value.int .u8 0)) 54))
 go_enter Tryz.func132, Tryz.ntmps132
 go_wp2_with fail
 generalize hw0 : World.alloc w _ = w0
 have hz0 : w0.heap[w.heap.size]? = some (.cells (Array.replicate 16 (Value.int .u8 0)) 54 (0, 0)) := by rw [← hw0]; exact HN.out
 have hb0 : Below w.heap.size w w0 := by rw [← hw0]; exact HB.out
 have hs0 : w0.heap.size = w.heap.size + 1 := by rw [← hw0]; exact HS.out
 clear hw0 HN HB HS
 refine (AZ pa np ncap ps w0 ((HP.out.below hb0 (Nat.le_refl _)).below (Below.refl w0.heap.size w0) (by omega)) (HK.out.below hb0 hk0) (by omega) hbd hnp).mono ?_
 rintro e w1 ⟨rfl, hb1⟩
 have hz1 := (hb1.block _ (by omega : w.heap.size < w0.heap.size)).trans hz0
 have hbe1 := hb0.trans (hb1.mono hb0.size)
 have hs1 := hb1.size
 clear hz0 hb0 hb1
 have H1 := zh hz1; clear hz1
 have HD := zh (heap_alloc_new w1 (.cells (Array.replicate 32 (Value.int .u8 0)) 43))
 go_wp2_with (refine wpList_store_row rfl 43 _ _ rfl w1.heap.size _ rfl rfl 43 _ HD.out (bP _) (by rw [bY]; rfl) (cZ _) ?_; generalize hw2 : World.setRow _ _ _ = w2)
 have hg2 : w2.heap[w1.heap.size]? = some (.cells (dg (cat ps)) 43 (0, 0)) := by rw [← hw2]; exact setRow_heap _ _ _ _ _ _ HD.out
 have hb2 : Below w1.heap.size w1 w2 := by rw [← hw2]; exact below_setRow (aB _ _) (Nat.le_refl _) _
 have hs2 : w2.heap.size = w1.heap.size + 1 := by rw [← hw2]; simp
 clear hw2 HD
 have hz2 := (hb2.block _ (by omega : w.heap.size < w1.heap.size)).trans H1.out
 have hbe2 := hbe1.trans (hb2.mono hbe1.size)
 have HN := zh (heap_alloc_new w2 (.cells (Array.replicate 16 (Value.int .u8 0)) 54))
 have HB := zh (aB w2 (.cells (Array.replicate 16 (Value.int .u8 0)) 54))
 generalize hw3 : World.alloc w2 _ = w3
 have hg3 : w3.heap[w2.heap.size]? = some (.cells (Array.replicate 16 (Value.int .u8 0)) 54 (0, 0)) := by rw [← hw3]; exact HN.out
 have hb3 : Below w2.heap.size w2 w3 := by rw [← hw3]; exact HB.out
 clear hw3 HN HB
 have hd3 := (hb3.block _ (by omega : w1.heap.size < w2.heap.size)).trans hg2
 have hz3 := (hb3.block _ (by omega : w.heap.size < w2.heap.size)).trans hz2
 have hbe3 := hbe2.trans (hb3.mono hbe2.size)
 rw [hs2] at hg3
 clear hb3 hbe2 hz2 hb2 hg2 hbe1 H1
 have hl16 : (((aT (sha (cat ps)).list).take 16).map (Value.int .u8)).length = Nat.min 32 16 := by simp [aR, St.list_length]
 have hpos : ∀ j v, (((aT (sha (cat ps)).list).take 16).map (Value.int .u8))[j]? = some v → w3.cell? ((⟨w1.heap.size, 0, none⟩ : Addr).add j) = some v := by
  intro j v hv
  rw [Addr.add_mid, Nat.zero_add]
  refine gH hd3 ?_
  rw [List.map_take, List.getElem?_take] at hv
  split at hv
  ·exact hv
  ·cases hv
 have HP2 := zh hpos; have HL := zh hl16; clear hpos hl16
 have hone := gG .u8 ((aT (sha (cat ps)).list).take 16)
 have HO := zh hone; clear hone
 have HG := zh (show w3.heap[w1.heap.size + 1]? = some (.cells (List.replicate 16 (Value.int .u8 0)).toArray 54 (0, 0)) by rw [hg3]; rfl)
 obtain ⟨c, hc⟩ : ∃ c, c = ((aT (sha (cat ps)).list).take 16).map (Value.int .u8) := ⟨_, rfl⟩
 rw [← hc] at HP2 HL HO
 have HC := zh hc; clear hc hg3 hd3
 have HZ := zh hz3; clear hz3
 go_region_law (refine step_copy_splice rfl (.tmp 7) (.tmp 8) 22 22 rfl 5 Tryz.underlying22 Tryz.info5b _ _ _ _ _ _ rfl rfl (w1.heap.size + 1) 0 _ 54 HG.out c HL.out (fun _ => ⟨rfl, _, rfl, HP2.out⟩) (by rw [HL.out]; simp) HO.out (w1.heap.size + 1) w3 ((Below.refl _ _).drew) (Nat.le_refl _) ?_; intro w4 hg4 hb4)
 have hcl : c.length = 16 := by rw [HL.out]; rfl
 have hsp : splice (List.replicate 16 (Value.int .u8 0)) 0 c = c := by
  unfold splice; rw [List.take_zero, List.nil_append, List.drop_eq_nil_of_le (by rw [hcl]; simp), List.append_nil]
 have hg5 : w4.heap[w1.heap.size + 1]? = some (.cells c.toArray 54 (0, 0)) := by rw [hg4.out, hsp]
 have hz5 : w4.heap[w.heap.size]? = some (.cells (Array.replicate 16 (Value.int .u8 0)) 54 (0, 0)) := (hb4.block _ (by omega)).trans HZ.out
 have hbe5 := hbe3.trans (hb4.mono (by omega))
 have hi : (Tryz.prog.info? 54).map (·.size) = some c.toArray.size := by rw [List.size_toArray, hcl]; exact Tryz.info30h
 have HI := zh hi; have HG5 := zh hg5; have HZ5 := zh hz5
 have hone2 : c.toArray.all (·.oneCell') = true := all_oneCell_toArray HO.out
 have HO2 := zh hone2
 have HSZ := zh (show (Array.replicate 16 (Value.int .u8 0)).size = c.toArray.size by simp [hcl])
 clear hi hg5 hz5 hcl hsp hone2 hb4 hg4 HP2 HL HG hbe3 HZ
 go_wp2_with (first
  | (refine wpList_load_row rfl 54 _ rfl (w1.heap.size + 1) rfl 54 _ (0, 0) _ HG5.out Tryz.underlying54 rfl HI.out ?_)
  | (refine wpList_store_row rfl 54 _ _ rfl w.heap.size _ rfl rfl 54 _ HZ5.out HI.out HSZ.out HO2.out ?_))
 exact bodyPost_ret (results_cell_row (P := Tryz.prog) rfl _ _ w.heap.size 54 _ (0, 0) _ rfl (setRow_heap _ _ _ _ _ _ HZ5.out) Tryz.underlying54 rfl HI.out) rfl ⟨by rw [HC.out]; rfl, below_setRow hbe5 (Nat.le_refl _) _⟩
end Go.Proofs.YtcligodahogpkaaGreatDoor
namespace Go.Proofs.YtcligodahogpkaaGreatDoor
open Go
def zed : List Int := List.replicate 32 0
end Go.Proofs.YtcligodahogpkaaGreatDoor
namespace Go.Proofs.YtcligodahogpkaaGreatDoor
open Go.RowKit
def D32 (l : List Int) : Prop := l.length = 32 ∧ ∀ x ∈ l, 0 ≤ x ∧ x < 256
theorem D32.zed : D32 zed := ⟨rfl, fun x hx => by rw [List.eq_of_mem_replicate hx]; omega⟩
theorem rU : (Tryz.prog.info? 43).map (·.size) = some 32 := by kernel_rfl
def dgA (d : List Int) : Array Value := (d.map (Value.int .u8)).toArray
theorem pB (L : List Int) (i : Nat) (h : i < L.length) : (L.map (Value.int .u8))[i]? = some (.int .u8 (L.getD i 0)) := by
 rw [List.getElem?_map, List.getElem?_eq_getElem h, List.getD_eq_getElem?_getD, List.getElem?_eq_getElem h]; rfl
theorem qL (L : List Int) (i : Nat) (h : i < L.length) (w : World) : (part 5 (dgA L) (i * 1)).run Tryz.prog w = .ok (.int .u8 (L.getD i 0)) w := by
 have hu : (underlying 5).run Tryz.prog w = .ok (.int .u8) w := run_underlying Tryz.underlying5 w
 have hg := pB L i h
 simp [part, isAgg, hu, dgA, hg]
theorem GL (d : Nat) (a b : Int) (w : World) : (Op.equalIn (d + 1) 5 (.int .u8 a) (.int .u8 b)).run Tryz.prog w = .ok (a == b) w := by
 simp [Op.equalIn, run_underlying Tryz.underlying5]
theorem uN (d : Nat) (X Y : List Int) : ∀ (is : List Nat) (w : World), (∀ i ∈ is, i < X.length ∧ i < Y.length) →
 (Op.eqItems (d + 1) 5 1 (dgA X) (dgA Y) is).run Tryz.prog w = .ok (is.all fun i => X.getD i 0 == Y.getD i 0) w
 | [], w, _ => by simp [Op.eqItems]
 | i :: is, w, h => by
   have hi := h i (by simp)
   have ih := uN d X Y is w (fun j hj => h j (by simp [hj]))
   simp only [Op.eqItems, Sem.run_bind, qL X i hi.1, qL Y i hi.2, GL, Result.andThen_ok]
   cases hx : (X.getD i 0 == Y.getD i 0)
   ·rw [List.all_cons, hx]; simp
   ·rw [List.all_cons, hx]; simpa using ih
theorem sG (X Y : List Int) (h : X.length = Y.length) : ((List.range X.length).all fun i => X.getD i 0 == Y.getD i 0) = decide (X = Y) := by
 by_cases e : X = Y
 ·subst e; simp
 ·simp only [e, decide_false]
  rw [Bool.eq_false_iff]
  intro ha
  refine e (List.ext_getElem h fun i h1 h2 => ?_)
  have := List.all_eq_true.1 ha i (by simpa using h1)
  simpa [List.getD_eq_getElem?_getD, List.getElem?_eq_getElem h1, List.getElem?_eq_getElem h2] using this
theorem DL (dep : Nat) (X Y : List Int) (hX : X.length = 32) (hY : Y.length = 32) (w : World) : (Op.equalIn (dep + 2) 43 (.agg (dgA X)) (.agg (dgA Y))).run Tryz.prog w = .ok (decide (X = Y)) w := by
 have hc : Tryz.prog.cellsOf 5 = 1 := by kernel_rfl
 obtain ⟨i, hi⟩ : ∃ i, Tryz.prog.info? 5 = some i := Option.isSome_iff_exists.1 (by kernel_rfl)
 have h := run_equalIn_array (P := Tryz.prog) w (dep + 1) (dgA X) (dgA Y) Tryz.underlying43 hi
 rw [hc] at h
 have e := uN dep X Y (List.range 32) w (fun j hj => by rw [hX, hY]; simpa using hj)
 have r := sG X Y (by omega)
 rw [hX] at r
 rw [r] at e
 rw [e] at h
 exact h
theorem eqlD (X Y : List Int) (hX : X.length = 32) (hY : Y.length = 32) (w : World) :
 (binOp .eql 43 (.agg (X.map (Value.int .u8)).toArray) (.agg (Y.map (Value.int .u8)).toArray)).run Tryz.prog w = .ok (.bool (decide (X = Y))) w := by
 have h : (Op.equalIn 10000 43 (.agg (X.map (Value.int .u8)).toArray) (.agg (Y.map (Value.int .u8)).toArray)).run Tryz.prog w = .ok (decide (X = Y)) w := DL 9998 X Y hX hY w
 simp only [binOp]
 simp [Op.equal, Op.maxDepth, h]
theorem neqD (X Y : List Int) (hX : X.length = 32) (hY : Y.length = 32) (w : World) :
 (binOp .neq 43 (.agg (X.map (Value.int .u8)).toArray) (.agg (Y.map (Value.int .u8)).toArray)).run Tryz.prog w = .ok (.bool (!decide (X = Y))) w := by
 have h : (Op.equalIn 10000 43 (.agg (X.map (Value.int .u8)).toArray) (.agg (Y.map (Value.int .u8)).toArray)).run Tryz.prog w = .ok (decide (X = Y)) w := DL 9998 X Y hX hY w
 simp only [binOp]
 simp [Op.equal, Op.maxDepth, h]
theorem dP {w : World} {b t : Nat} {fz : Nat × Nat} {cs pre sub post : List Value} {o : Nat} (h : w.heap[b]? = some (.cells cs.toArray t fz)) (e : cs = pre ++ (sub ++ post)) (ho : o = pre.length) : w.rangeAt b o sub := by
 intro j v hv
 have hj := (List.getElem?_eq_some_iff.1 hv).1
 show w.cell? ⟨b, o + j, none⟩ = some v
 rw [cell_of_row w b (o + j) cs.toArray t fz h, e, ho, List.getElem?_toArray, List.getElem?_append_right (by omega), Nat.add_sub_cancel_left, List.getElem?_append_left hj, hv]
theorem jP {d : List Int} (h : D32 d) : (Tryz.prog.info? 43).map (·.size) = some (d.map (Value.int .u8)).length := by rw [List.length_map, h.1]; exact rU
theorem bW (w : World) (old cells : Array Value) (t : TypeId) : (w.alloc (.cells old t)).setRow w.heap.size cells = w.alloc (.cells cells t) := by
 unfold World.setRow World.alloc
 congr 1
 apply Array.ext
 ·simp
 ·intro i h1 h2
  rw [Array.getElem_modify]
  by_cases e : w.heap.size = i
  ·subst e; simp
  ·have hi : i < w.heap.size := by simp at h2; omega
   simp [e, Array.getElem_push, hi]
/-! ### structs put together -/
theorem yA (off : Nat) : ∀ (vs pre old post : List Value) (k : Nat), off + k = pre.length → old.length = vs.length →
 (vs.zipIdx k).foldl (fun cs (x : Value × Nat) => cs.setIfInBounds (off + x.2) x.1) (pre ++ (old ++ post)).toArray = (pre ++ (vs ++ post)).toArray
 | [], pre, old, post, k, _, ho => by
   have : old = [] := List.eq_nil_of_length_eq_zero ho
   subst this; rfl
 | v :: vs, pre, o :: old, post, k, hk, ho => by
   rw [List.zipIdx_cons, List.foldl_cons]
   have h1 : (pre ++ (o :: old ++ post)).toArray.setIfInBounds (off + k) v = ((pre ++ [v]) ++ (old ++ post)).toArray := by
    rw [List.setIfInBounds_toArray, hk, List.cons_append, List.set_append_right _ _ (Nat.le_refl _), Nat.sub_self, List.set_cons_zero, List.append_assoc]; rfl
   show List.foldl _ ((pre ++ (o :: old ++ post)).toArray.setIfInBounds (off + k) v) _ = _
   rw [h1, yA off vs (pre ++ [v]) old post (k + 1) (by rw [List.length_append]; show off + (k + 1) = pre.length + 1; omega) (by simpa using ho), List.append_assoc]; rfl
theorem jF {place : Nat → Option (Nat × Nat)} {i off sz : Nat} {v : Value} {rest : List (Nat × Value)} (vs pre old post : List Value) (hp : place i = some (off, sz)) (hv : v.cells = vs.toArray) (hl : vs.length = sz) (ho : off = pre.length) (hold : old.length = sz) :
 Instr.fill place (pre ++ (old ++ post)).toArray ((i, v) :: rest) = Instr.fill place (pre ++ (vs ++ post)).toArray rest := by
 rw [Instr.fill, hp]
 show (if v.cells.size ≠ sz || off + v.cells.size > (pre ++ (old ++ post)).toArray.size then none else _) = _
 rw [if_neg (by rw [hv]; simp; omega)]
 congr 1
 rw [hv, ← Array.foldl_toList, Array.toList_zipIdx]
 exact yA off vs pre old post 0 (by omega) (by omega)
theorem mT {P : Program} {t : TypeId} {fields : Array Field} {z : Value} {places : List (Nat × Nat)} {parts : List (Nat × Value)} (hi : (P.info? t).map (·.zero) = some (some z)) (hu : P.underlying t = some (.struct fields))
 (hp : fields.toList.mapM (fun f => (P.info? f.type).map fun i => (f.offset, i.size)) = some places) : P.built t parts = Instr.fill (places.toArray[·]?) z.cells parts := by
 cases h : P.info? t with
 | none => rw [h] at hi; cases hi
 | some it =>
   rw [h] at hi
   have hz : it.zero = some z := by injection hi
   unfold Program.built
   simp only [h, hu, hz, hp]
theorem oK (w : World) (t e : TypeId) (cs : List Value) (ie : TypeInfo) (z : Value) (hu : Tryz.prog.underlying t = some (.slice e)) (hie : Tryz.prog.info? e = some ie) (hz : ie.zero = some z) (hs : ie.size = cs.length) (h0 : 0 < cs.length) (h1 : cs.length ≤ 1000) :
 (Instr.buildSlice t 1 #[(0, .agg cs.toArray)]).run Tryz.prog w = .ok (.slice (some ⟨w.heap.size, 0, none⟩) 1 1) (w.alloc (.cells cs.toArray e)) := by
 refine run_buildSlice w t e 1 _ _ ie z hu hie hz (by rw [hs]; omega) (by rw [hs]; omega) ?_
 obtain ⟨old, hold⟩ : ∃ old : List Value, old = ((Array.range (1 * ie.size)).map (z.cells[· % z.cells.size]!)).toList := ⟨_, rfl⟩
 have hl : old.length = ie.size := by rw [hold]; simp
 have e1 : (Array.range (1 * ie.size)).map (z.cells[· % z.cells.size]!) = ([] ++ (old ++ [])).toArray := by rw [hold, List.nil_append, List.append_nil]
 rw [e1]
 rw [jF cs [] old [] (sz := ie.size) (off := 0 * ie.size) rfl rfl hs.symm (by simp) hl]
 simp [Instr.fill]
theorem cM {P : Program} {w : World} {ops : Array Oper} {rest : List Oper} {o : Oper} {a : Act} {Q : Exit → Act → World → Prop} (hgd : o.guard = none) (t : TypeId) (parts : List (Nat × Operand)) (ho : o.op = .build t parts.toArray)
 (vs : List (Nat × Value)) (hv : (parts.map fun (i, x) => (i, a.eval x)) = vs) (v : Value) (hrun : (Instr.build t vs.toArray).run P w = .ok v w) (h : wpList P ops Q rest (a.put o.dst v) w) : wpList P ops Q (o :: rest) a w :=
 wpList_plain hgd fun _ hK => by
  unfold Oper.wp execOp
  simp only [ho, Sem.run_bind, List.map_toArray, hv, hrun, Result.andThen_ok]
  exact hK _ _ h
theorem bR {P : Program} {w : World} {ops : Array Oper} {rest : List Oper} {o : Oper} {a : Act} {Q : Exit → Act → World → Prop} (hgd : o.guard = none) (t : TypeId) (n : Nat) (parts : List (Nat × Operand)) (ho : o.op = .buildSlice t n parts.toArray)
 (vs : List (Nat × Value)) (hv : (parts.map fun (i, x) => (i, a.eval x)) = vs) (v : Value) (w' : World) (hrun : (Instr.buildSlice t n vs.toArray).run P w = .ok v w') (h : wpList P ops Q rest (a.put o.dst v) w') : wpList P ops Q (o :: rest) a w :=
 wpList_plain hgd fun _ hK => by
  unfold Oper.wp execOp
  simp only [ho, Sem.run_bind, List.map_toArray, hv, hrun, Result.andThen_ok]
  exact hK _ _ h
theorem aZ {w : World} {base e size : Nat} {v : Value} {n : Nat} {xs : List Value} (h : w.ownsRow base e size v n xs) : ∃ sp cap, v = .slice sp n cap := by
 obtain ⟨_, ⟨rfl, h0⟩ | ⟨g, cap, _, rfl, _⟩⟩ := h
 ·subst h0; exact ⟨_, _, rfl⟩
 ·exact ⟨_, _, rfl⟩
theorem bL {w : World} {base e size : Nat} {v : Value} {n : Nat} {xs : List Value} (h : w.ownsRow base e size v n xs) : ∀ k, v.ownBlock = some k → base ≤ k := by
 intro k hk
 obtain ⟨_, ⟨rfl, _⟩ | ⟨g, cap, _, rfl, hb, _⟩⟩ := h
 ·cases hk
 ·injection hk with hk; subst hk; exact hb
theorem eN {w w' : World} {base e size : Nat} {v : Value} {n : Nat} {xs : List Value} (h : w.ownsRow base e size v n xs) (hb : Below w.heap.size w w') : w'.ownsRow base e size v n xs := by
 obtain ⟨hl, h1 | ⟨g, cap, cur, rfl, hbg, hg, rest⟩⟩ := h
 ·exact ⟨hl, .inl h1⟩
 ·exact ⟨hl, .inr ⟨g, cap, cur, rfl, hbg, (hb.block g (Array.getElem?_eq_some_iff.1 hg).1).trans hg, rest⟩⟩
theorem aA {w w' : World} {b o B : Nat} {cs : List Value} (h : w.rangeAt b o cs) (hb : Below B w w') (hlt : b < B) : w'.rangeAt b o cs := fun j v hv => (hb.cell (p := ⟨b, o + j, none⟩) hlt).trans (h j v hv)
theorem oB {α : Type} (f : α → List Value) (sz : Nat) : ∀ (l : List α), (∀ x ∈ l, (f x).length = sz) → ∀ i x, l[i]? = some x → ∀ j v, (f x)[j]? = some v → (l.flatMap f)[i * sz + j]? = some v
 | [], _, i, x, hi, _, _, _ => by simp at hi
 | y :: l, h, 0, x, hi, j, v, hv => by
   have e : y = x := by simpa using hi
   subst e
   have hj := (List.getElem?_eq_some_iff.1 hv).1
   rw [List.flatMap_cons, Nat.zero_mul, Nat.zero_add, List.getElem?_append_left hj, hv]
 | y :: l, h, i + 1, x, hi, j, v, hv => by
   have hy := h y (by simp)
   rw [List.flatMap_cons, List.getElem?_append_right (by rw [hy, Nat.add_mul]; omega), hy, show (i + 1) * sz + j - sz = i * sz + j by rw [Nat.add_mul]; omega]
   exact oB f sz l (fun z hz => h z (by simp [hz])) i x (by simpa using hi) j v hv
theorem mJ {α : Type} {f : α → List Value} {sz : Nat} {w : World} {base e : Nat} {g n cap : Nat} {l : List α} (h : w.ownsRow base e sz (.slice (some ⟨g, 0, none⟩) n cap) l.length (l.flatMap f)) (hs : ∀ x ∈ l, (f x).length = sz) (hn : l.length = n) :
 g < w.heap.size ∧ n ≤ cap ∧ ∀ i x, l[i]? = some x → w.rangeAt g (0 + i * sz) (f x) := by
 obtain ⟨_, ⟨h1, _⟩ | ⟨g', cap', cur, h1, _, hg, hle, _, hsz, htk⟩⟩ := h
 ·cases h1
 ·injection h1 with h1 h2 h3
  injection h1 with h1; injection h1 with h1
  subst h1; subst h3
  refine ⟨(Array.getElem?_eq_some_iff.1 hg).1, by omega, fun i x hi j v hv => ?_⟩
  show w.cell? ⟨g, 0 + i * sz + j, none⟩ = some v
  rw [cell_of_row w g _ cur e _ hg, Nat.zero_add]
  have h4 := oB f sz l hs i x hi j v hv
  rw [← htk, List.getElem?_take] at h4
  split at h4
  ·simpa using h4
  ·cases h4
end Go.Proofs.YtcligodahogpkaaGreatDoor
namespace Go.Proofs.YtcligodahogpkaaGreatDoor
open Go
def OM (n : Nat) : Nat → Nat → Nat
 | 0, k => k
 | f + 1, k => if 2 * k < n then OM n f (2 * k) else k
def kp (n : Nat) : Nat := OM n n 1
def OnWay (n k : Nat) : Prop := 1 ≤ k ∧ k < n ∧ ∃ f, n ≤ f + k ∧ OM n f k = kp n
theorem OnWay.start (n : Nat) (h : 2 ≤ n) : OnWay n 1 := ⟨by omega, by omega, n, by omega, rfl⟩
theorem OnWay.step {n k : Nat} (h : OnWay n k) (hk : 2 * k < n) : OnWay n (2 * k) := by
 obtain ⟨h1, _, f, hf, hg⟩ := h
 obtain ⟨g, rfl⟩ : ∃ g, f = g + 1 := ⟨f - 1, by omega⟩
 refine ⟨by omega, hk, g, by omega, ?_⟩
 rw [← hg]; conv => rhs; unfold OM
 rw [if_pos hk]
theorem OnWay.fin {n k : Nat} (h : OnWay n k) (hk : ¬ 2 * k < n) : k = kp n := by
 obtain ⟨_, _, f, _, hg⟩ := h
 rw [← hg]
 cases f with
 | zero => rfl
 | succ g => unfold OM; rw [if_neg hk]
theorem NN (x : Int) : Byt (wb x) := fun y hy => by
 simp only [wb, List.mem_cons, List.not_mem_nil, or_false] at hy
 rcases hy with rfl | rfl | rfl | rfl <;> omega
theorem kF : ∀ l : List Int, Byt (aT l)
 | [] => fun x hx => by simp [aT] at hx
 | y :: r => (NN y).append (kF r)
def Digs (l : List (List Int)) : Prop := ∀ x ∈ l, x.length = 32 ∧ Byt x
theorem Digs.take {l : List (List Int)} (h : Digs l) (k : Nat) : Digs (l.take k) := fun x hx => h x (List.mem_of_mem_take hx)
theorem Digs.drop {l : List (List Int)} (h : Digs l) (k : Nat) : Digs (l.drop k) := fun x hx => h x (List.mem_of_mem_drop hx)
end Go.Proofs.YtcligodahogpkaaGreatDoor
