/-
  The law of a loop over strings.SplitSeq's iterator (a separator of one byte) whose body goes on or returns: the caller's word on memory abides whatever happens behind its own blocks.
-/
import Derived.Test.YtecllfbadciaoaaDoorZip
import Derived.Test.YtecllfbadciaoaaDoorQ1
import Derived.RangeFuncFrom
import Derived.BigQuiet
import Derived.Deep.QuietTactic
import Derived.Deep.RegionWith
import Derived.Laws.Cover1
import Derived.Laws.AppendOwn
import Derived.RangeFuncKeeps
import Derived.RangeFuncBox
set_option maxRecDepth 100000
set_option maxHeartbeats 8000000
namespace Go.Proofs.YtecllfbadciaoaaDoor
open Go.RowKit
def Tail (cs : Nat) (W W' : World) : Prop := W.heap.size ≤ W'.heap.size ∧ ∀ k, cs ≤ k → k < W.heap.size → W'.heap[k]? = W.heap[k]?
def spPost (cs : Nat) (I Ix : List ByteArray → World → Prop) (xs : List ByteArray) (W : World) : Exit → Act → World → Prop
 | .normal, _, W' => Tail cs W W' ∧ I xs W'
 | .ret, _, W' => Tail cs W W' ∧ Ix xs W'
 | _, _, _ => False
theorem below_put (B : Nat) (W : World) (l : Nat) (o : Obj) (hB : B ≤ l) : Below B W (W.putObj l o) := ⟨rfl, rfl, rfl, by simp, fun k hk => World.putObj_heap_other (by omega)⟩
theorem below_set (B : Nat) (W : World) (c : Nat) (v : Value) (hB : B ≤ c) : Below B W (W.setCell ⟨c, 0, none⟩ v) := (Below.refl B W).setCell (p := ⟨c, 0, none⟩) hB v
theorem wpIn_split {n : Nat} {p : Tmp} {g : Operand} {assign body : Code} {Q : Exit → Act → World → Prop} {a : Act} {w : World} (cs ce cv : Nat) (s : ByteArray) (hss : s.size ≤ 1000000)
 (hg : a.eval g = .func (.func 93) #[] #[.pointer (some ⟨ce, 0, none⟩), .pointer (some ⟨cs, 0, none⟩), .pointer (some ⟨cv, 0, none⟩)])
 (hc : SpIn w cs ce cv s) (h1 : cs < ce) (h2 : cs < cv) (h3 : ce < w.heap.size) (h4 : cv < w.heap.size)
 (I Ix : List ByteArray → World → Prop) (hI : ∀ xs W W', I xs W → Below cs W W' → I xs W') (hIx : ∀ xs W W', Ix xs W → Below cs W W' → Ix xs W') (h0 : I [] w) (act : ByteArray → Act)
 (hassign : ∀ (l : Nat) (x : ByteArray) (W : World) (K : Act → World → Prop), K (act x) W →
  assign.wpIn (Fence.wide.inRound l) (n - 1 - 1) Tryd.prog (Exit.then K (fun _ _ _ => False)) { tmps := (#[p].zip #[Value.string x]).foldl (fun t (q, v) => t.setIfInBounds q v) a.tmps, defers := [] } W)
 (hbody : ∀ (l : Nat) (pre : List ByteArray) (x : ByteArray) (W : World), I pre W → cs < W.heap.size → body.wpIn (Fence.wide.inRound l) (n - 1 - 1) Tryd.prog (spPost cs I Ix (pre ++ [x]) W) (act x) W)
 (hdone : ∀ (D : Nat) (W : World), w.heap.size ≤ D → I (seg s) W → W.heap[D]? = some (.deferred (some [])) → Q .normal { a with defers := { target := .collected D, args := #[] } :: a.defers } W)
 (hstop : ∀ (D : Nat) (pre : List ByteArray) (W : World), w.heap.size ≤ D → pre <+: seg s → Ix pre W → W.heap[D]? = some (.deferred (some [])) → Code.ret.wpIn Fence.wide n Tryd.prog Q { a with defers := { target := .collected D, args := #[] } :: a.defers } W) :
 (Code.rangeFunc g #[p] assign body).wpIn Fence.wide n Tryd.prog Q a w := by
 refine wpIn_rangeFunc (fun fn _ => ?_)
 obtain ⟨D, hD⟩ : ∃ D, w.heap.size = D := ⟨_, rfl⟩
 obtain ⟨r, hr⟩ : ∃ r : LoopState → Option Code → Obj, r = fun st pe => .loop { state := st, pending := pe, fn := fn, tmps := a.tmps, params := #[p], assign := assign, body := body, defers := D } := ⟨_, rfl⟩
 obtain ⟨V, hV⟩ : ∃ V, (w.alloc (.deferred (some []))).alloc (r .ready none) = V := ⟨_, rfl⟩
 have v1 : V.heap[D + 1]? = some (r .ready none) := by
  rw [← hV, ← hD]; have := World.alloc_heap_new (w.alloc (.deferred (some []))) (r .ready none); rwa [World.size_alloc] at this
 have v0 : V.heap[D]? = some (.deferred (some [])) := by
  rw [← hV, ← hD]; exact (Below.heap_alloc _ _ _ (by simp)).trans (World.alloc_heap_new w _)
 have vb : Below w.heap.size w V := by rw [← hV]; exact ((Below.refl _ w).alloc (Nat.le_refl _) _).alloc (by simp) _
 refine ⟨D + 1, [{ target := .collected D, args := #[] }], V, { target := .fn (.func 93) #[.pointer (some ⟨ce, 0, none⟩), .pointer (some ⟨cs, 0, none⟩), .pointer (some ⟨cv, 0, none⟩)], args := #[.func (.yield (D + 1)) #[] #[]] }, V, 93,
  #[.func (.yield (D + 1)) #[] #[], .pointer (some ⟨ce, 0, none⟩), .pointer (some ⟨cs, 0, none⟩), .pointer (some ⟨cv, 0, none⟩)], V, ?_, ?_, fun _ _ => trivial, ?_, (fun h => by cases h), ?_⟩
 ·rw [← hV, ← hD, hr, ← hD]; exact run_enterLoop_outer _ _ _ _ _
 ·simp only [resolve, hg]; simp [go_sem]
 ·simp [invoke, go_sem]
 have ready : ∀ st pe, (r st pe) = .loop { state := st, pending := pe, fn := fn, tmps := a.tmps, params := #[p], assign := assign, body := body, defers := D } := fun st pe => by rw [hr]
 have hI0 : I [] V := hI _ _ _ h0 (vb.mono (by omega))
 refine (split1_in (n - 1) (D + 1) cs ce cv s
  (fun pre W => I pre W ∧ W.heap[D + 1]? = some (r .ready none) ∧ W.heap[D]? = some (.deferred (some [])))
  (fun pre W => Ix pre W ∧ W.heap[D + 1]? = some (r .done (some .ret)) ∧ W.heap[D]? = some (.deferred (some [])))
  hss (by omega) (by omega)
  (fun pre W v hj => ⟨hI _ _ _ hj.1 (below_set cs W cs v (Nat.le_refl _)), (Below.heap_setCell W ⟨cs, 0, none⟩ v (D + 1) (by show D + 1 ≠ cs; omega)).trans hj.2.1, (Below.heap_setCell W ⟨cs, 0, none⟩ v D (by show D ≠ cs; omega)).trans hj.2.2⟩)
  ?_ V (hc.same ⟨vb.block cs (by omega), vb.block ce h3, vb.block cv h4⟩) ⟨hI0, v1, v0⟩).mono ?_
 ·-- one round
  rintro pre x W ⟨hi, hl, hk⟩
  have hlt : D + 1 < W.heap.size := (Array.getElem?_eq_some_iff.1 hl).1
  rw [ready] at hl
  have hy := run_yield (P := Tryd.prog) (args := #[.string x]) hl rfl
  refine ⟨fn, _, assign, body, hy, roundIn_of_wpIn trivial ?_⟩
  refine hassign (D + 1) x W _ ?_
  refine ⟨_, run_beginRound hl rfl, ?_⟩
  obtain ⟨W2, hW2⟩ : ∃ W2, W.putObj (D + 1) (r .busy none) = W2 := ⟨_, rfl⟩
  have b2 : Below (D + 1) W W2 := by rw [← hW2]; exact below_put _ _ _ _ (Nat.le_refl _)
  have l2 : W2.heap[D + 1]? = some (r .busy none) := by rw [← hW2]; exact World.putObj_heap_same hlt
  have z2 : W2.heap.size = W.heap.size := by rw [← hW2]; simp
  rw [← ready .busy none, hW2]
  refine wpIn_mono (hbody (D + 1) pre x W2 (hI _ _ _ hi (b2.mono (by omega))) (by omega)) ?_
  have fin : ∀ (jump : Option Code) (W3 : World), Tail cs W2 W3 → (Instr.endRound (D + 1) jump).run Tryd.prog W3 = .ok (.bool jump.isNone) (W3.putObj (D + 1) (r (if jump.isNone then .ready else .done) jump)) ∧
   (W3.putObj (D + 1) (r (if jump.isNone then .ready else .done) jump)).heap[D + 1]? = some (r (if jump.isNone then .ready else .done) jump) ∧
   (W3.putObj (D + 1) (r (if jump.isNone then .ready else .done) jump)).heap[D]? = some (.deferred (some [])) ∧ Below (D + 1) W3 (W3.putObj (D + 1) (r (if jump.isNone then .ready else .done) jump)) := fun jump W3 ht => by
   have l3 : W3.heap[D + 1]? = some (r .busy none) := (ht.2 (D + 1) (by omega) (by omega)).trans l2
   have k3 : W3.heap[D]? = some (.deferred (some [])) := (ht.2 D (by omega) (by omega)).trans ((b2.block D (by omega)).trans hk)
   have hz : D + 1 < W3.heap.size := (Array.getElem?_eq_some_iff.1 l3).1
   rw [ready] at l3
   have := run_endRound (P := Tryd.prog) jump l3
   rw [this]
   exact ⟨by rw [ready], World.putObj_heap_same hz, (World.putObj_heap_other (by omega)).trans k3, below_put _ _ _ _ (Nat.le_refl _)⟩
  rintro e a3 W3 hp
  cases e with
  | normal =>
    obtain ⟨ht, hi3⟩ := hp
    obtain ⟨e1, e2, e3, e4⟩ := fin none W3 ht
    have keep : ∀ k, cs ≤ k → k < D → (W3.putObj (D + 1) (r .ready none)).heap[k]? = W.heap[k]? := fun k hk1 hk2 => (e4.block k (by omega)).trans ((ht.2 k hk1 (by omega)).trans (b2.block k (by omega)))
    exact ⟨_, _, e1, .inl ⟨rfl, ⟨hI _ _ _ hi3 (e4.mono (by omega)), e2, e3⟩, keep cs (Nat.le_refl _) (by omega), keep ce (by omega) (by omega), keep cv (by omega) (by omega)⟩⟩
  | ret =>
    obtain ⟨ht, hi3⟩ := hp
    obtain ⟨e1, e2, e3, e4⟩ := fin (some .ret) W3 ht
    exact ⟨_, _, e1, .inr ⟨rfl, hIx _ _ _ hi3 (e4.mono (by omega)), e2, e3⟩⟩
  | exit id => exact hp.elim
  | goto t => exact hp.elim
  | panic ch => exact hp.elim
  | outgrown => exact hp.elim
 ·-- behind the iterator
  rintro e W2 ⟨⟨v, rfl⟩, (⟨hi, hl, hk⟩ | ⟨pre, hpre, hi, hl, hk⟩)⟩
  ·rw [ready] at hl
   exact ⟨none, _, run_endLoop (P := Tryd.prog) hl (by simp), hdone D _ (by omega) (hI _ _ _ hi (below_put _ _ _ _ (by omega))) ((World.putObj_heap_other (by omega)).trans hk)⟩
  ·rw [ready] at hl
   exact ⟨some .ret, _, run_endLoop (P := Tryd.prog) hl (by simp), hstop D pre _ (by omega) hpre (hIx _ _ _ hi (below_put _ _ _ _ (by omega))) ((World.putObj_heap_other (by omega)).trans hk)⟩
attribute [local go_sem] Oper.semAt_some
theorem ret_boolP {a b : Bool} (h : a = b) : Ending.returned (.bool a) = .returned (.bool b) := by rw [h]
theorem goodB_parts {x : ByteArray} (h : goodB x = true) : (x.toList == []) = false ∧ (x.toList == [46]) = false ∧ (x.toList == [46, 46]) = false := by
 unfold goodB at h; simpa [Bool.and_eq_true, and_assoc] using h
theorem pathB_of (s : ByteArray) (h1 : s.size ≤ 200) (h2 : Lib.indexByte s.data.toList 0 < 0) : pathB s = (seg s).all goodB := by
 unfold pathB; rw [decide_eq_true h1, decide_eq_true h2]; rfl
theorem Path_any (s : ByteArray) (w : World) :
 Calls Tryd.prog 61 #[.string s] w fun e w' => e = .returned (.bool (pathB s)) ∧ Below w.heap.size w w' := by
 by_cases h200 : 200 < s.size
 ·have HP : Hid (pathB s = false) := by show _ = _; unfold pathB; rw [decide_eq_false (by omega)]; rfl
  have hd : decide ((s.size : Int) > 200) = true := by simp; omega
  go_enter Tryd.func61, Tryd.ntmps61
  go_wp2
  refine bodyPost_ret (v := .bool false) (by simp [results, Tryd.f61, go_sem]) rfl ⟨by rw [HP.out], ?_⟩
  exact (Below.refl _ _).alloc (Nat.le_refl _) _
 have hd : decide ((s.size : Int) > 200) = false := by simp; omega
 by_cases h0 : Lib.indexByte s.data.toList 0 < 0
 ·have HP := zh (pathB_of s (by omega) h0)
  obtain ⟨v, hv⟩ : ∃ v, Lib.indexByte s.data.toList 0 = v := ⟨_, rfl⟩
  have hc : ∀ w, Calls Tryd.prog 38 #[.string s, .int .u8 0] w fun e w' => e = .returned (.int .i64 v) ∧ w = w' := fun w => (indexByte_anyP s 0 w).mono fun e w' ⟨he, hw⟩ => ⟨by rw [he, ← hv]; rfl, hw⟩
  rw [hv] at h0
  have hd2 : decide (v ≥ 0) = false := by simp; omega
  have HC := zh hc; clear hc hv
  refine (callsIn_wide (n := 8)).1 ?_
  refine callsIn_of_wp_marks Tryd.func61 rfl trivial ?_ rfl
  simp only [Tryd.ntmps61, List.size_toArray, List.length_cons, List.length_nil, Nat.reduceAdd, Nat.reduceSub, Array.replicate_succ, Array.replicate_zero, List.push_toArray, List.append_toArray, List.nil_append, List.cons_append]
  gi_wp2
  refine ⟨trivial, ?_⟩
  refine (callsIn_wide.2 (HC.out _)).mono ?_
  rintro e w' ⟨rfl, rfl⟩
  gi_wp2
  refine ⟨trivial, ?_⟩
  refine (callsIn_wide.2 (splitSeq_any s _)).mono ?_
  rintro e w1 ⟨rfl, hw1⟩
  have HW1 := zh hw1; clear hw1
  gi_wp2
  have hB0 : Below w.heap.size w w1 := by rw [HW1.out]; exact ((((Below.refl _ w).alloc (Nat.le_refl _) _).alloc (by simp) _).alloc (by simp <;> omega) _).alloc (by simp <;> omega) _
  have hz1 : w1.heap.size = w.heap.size + 4 := by rw [HW1.out]; simp
  have hcr : w1.heap[w.heap.size]? = some (.cells #[.bool false] 4 (0, 0)) := by rw [HW1.out]; exact (Below.heap_alloc _ _ _ (by simp <;> omega)).trans ((Below.heap_alloc _ _ _ (by simp <;> omega)).trans ((Below.heap_alloc _ _ _ (by simp)).trans (heap_alloc_new w _)))
  have hc1 : w1.heap[w.heap.size + 1]? = some (.cells #[.string s] 9 (0, 0)) := by
   rw [HW1.out]; refine (Below.heap_alloc _ _ _ (by simp <;> omega)).trans ((Below.heap_alloc _ _ _ (by simp)).trans ?_)
   have := heap_alloc_new (w.alloc (.cells #[.bool false] 4)) (.cells #[.string s] 9); rwa [World.size_alloc] at this
  have hc2 : w1.heap[w.heap.size + 1 + 1]? = some (.cells #[.string slB] 9 (0, 0)) := by
   rw [HW1.out]; refine (Below.heap_alloc _ _ _ (by simp)).trans ?_
   have := heap_alloc_new ((w.alloc (.cells #[.bool false] 4)).alloc (.cells #[.string s] 9)) (.cells #[.string slB] 9); rwa [World.size_alloc, World.size_alloc] at this
  have hc3 : w1.heap[w.heap.size + 1 + 2]? = some (.cells #[.int .i64 0] 3 (0, 0)) := by
   rw [HW1.out]
   have := heap_alloc_new (((w.alloc (.cells #[.bool false] 4)).alloc (.cells #[.string s] 9)).alloc (.cells #[.string slB] 9)) (.cells #[.int .i64 0] 3); rwa [World.size_alloc, World.size_alloc, World.size_alloc] at this
  clear HW1
  refine wpIn_split (n := 8) (w.heap.size + 1) (w.heap.size + 1 + 1) (w.heap.size + 1 + 2) s (by omega) rfl
   ⟨by rw [cell_of_row w1 _ 0 _ _ _ hc1]; rfl, by simp [World.frozen?, hc1], by rw [cell_of_row w1 _ 0 _ _ _ hc2]; rfl, by rw [cell_of_row w1 _ 0 _ _ _ hc3]; rfl⟩ (by omega) (by omega) (by omega) (by omega)
   (fun xs W => xs.all goodB = true ∧ W.heap[w.heap.size]? = some (.cells #[.bool false] 4 (0, 0)) ∧ Below w.heap.size w W)
   (fun xs W => xs.all goodB = false ∧ W.heap[w.heap.size]? = some (.cells #[.bool false] 4 (0, 0)) ∧ Below w.heap.size w W)
   (fun xs W W' h hb => ⟨h.1, (hb.block _ (by omega)).trans h.2.1, h.2.2.trans (hb.mono (by omega))⟩)
   (fun xs W W' h hb => ⟨h.1, (hb.block _ (by omega)).trans h.2.1, h.2.2.trans (hb.mono (by omega))⟩)
   ⟨rfl, hcr, hB0⟩
   (fun x => { tmps := #[.string s, undef, .pointer (some ⟨w.heap.size, 0, none⟩), .string x, .string s, .int .i64 s.size, .bool false, .bool false, .string s, .int .i64 v, .bool false, .bool false, .string s, .func (.func 93) #[] #[.pointer (some ⟨w.heap.size + 1 + 1, 0, none⟩), .pointer (some ⟨w.heap.size + 1, 0, none⟩), .pointer (some ⟨w.heap.size + 1 + 2, 0, none⟩)], .string x, undef, undef, undef, undef, undef], defers := [] })
   ?assign ?body ?done ?stop
  case assign =>
   intro l x W K hK
   gi_wp2
   exact hK
  case body =>
   rintro l pre x W ⟨hp, hcr, hB⟩ hlt
   have hcell : W.cell? ⟨w.heap.size, 0, none⟩ = some (.bool false) := by rw [cell_of_row W _ 0 _ _ _ hcr]; rfl
   have hfro : W.frozen? ⟨w.heap.size, 0, none⟩ = false := by simp [World.frozen?, hcr]
   by_cases hg : goodB x = true
   ·obtain ⟨g1, g2, g3⟩ := goodB_parts hg
    have HR : Hid (Tail (w.heap.size + 1) W W ∧ (pre ++ [x]).all goodB = true ∧ W.heap[w.heap.size]? = some (.cells #[.bool false] 4 (0, 0)) ∧ Below w.heap.size w W) :=
     ⟨⟨Nat.le_refl _, fun _ _ _ => rfl⟩, by rw [List.all_append, hp]; simp [hg], hcr, hB⟩
    clear hg hp hcr hB
    gi_wp2
    exact HR.out
   ·have hg : goodB x = false := by simpa using hg
    have HR : Hid (Tail (w.heap.size + 1) W (W.setCell ⟨w.heap.size, 0, none⟩ (.bool false)) ∧ (pre ++ [x]).all goodB = false ∧ (W.setCell ⟨w.heap.size, 0, none⟩ (.bool false)).heap[w.heap.size]? = some (.cells #[.bool false] 4 (0, 0)) ∧ Below w.heap.size w (W.setCell ⟨w.heap.size, 0, none⟩ (.bool false))) :=
     ⟨⟨by simp [World.setCell], fun k hk _ => Below.heap_setCell W ⟨w.heap.size, 0, none⟩ _ k (by show k ≠ w.heap.size; omega)⟩, by rw [List.all_append]; simp [hg], by simp [World.setCell, Array.getElem?_modify, hcr], hB.trans (below_set _ _ _ _ (Nat.le_refl _))⟩
    have hcs : (x.toList == []) = true ∨ ((x.toList == []) = false ∧ (x.toList == [46]) = true) ∨ ((x.toList == []) = false ∧ (x.toList == [46]) = false ∧ (x.toList == [46, 46]) = true) := by
     unfold goodB at hg
     cases h1 : (x.toList == []) <;> cases h2 : (x.toList == [46]) <;> cases h3 : (x.toList == [46, 46]) <;> simp_all
    clear hg hp hcr hB
    rcases hcs with g1 | ⟨g1, g2⟩ | ⟨g1, g2, g3⟩
    all_goals
     gi_wp2
     exact HR.out
  case done =>
   rintro D W hD ⟨hp, hcr, hB⟩ hK
   have hcell : W.cell? ⟨w.heap.size, 0, none⟩ = some (.bool false) := by rw [cell_of_row W _ 0 _ _ _ hcr]; rfl
   have hfro : W.frozen? ⟨w.heap.size, 0, none⟩ = false := by simp [World.frozen?, hcr]
   gi_wp2
   have hKs : (W.setCell ⟨w.heap.size, 0, none⟩ (.bool true)).heap[D]? = some (.deferred (some [])) := (Below.heap_setCell W ⟨w.heap.size, 0, none⟩ (.bool true) D (by show D ≠ w.heap.size; omega)).trans hK
   have hc5 : ((W.setCell ⟨w.heap.size, 0, none⟩ (.bool true)).putObj D (.deferred none)).cell? ⟨w.heap.size, 0, none⟩ = some (.bool true) :=
    (World.cell?_of_block (a := ⟨w.heap.size, 0, none⟩) (World.putObj_heap_other (by show w.heap.size ≠ D; omega))).trans (World.cell?_setCell_same' _ _ _ (by rw [hcell]; rfl))
   refine ⟨by simp, .inl ⟨_, _, rfl, run_takeDeferred hKs, ?_⟩⟩
   refine ⟨.bool true, ?_, by rw [HP.out, hp], hB.trans ((below_set _ W _ _ (Nat.le_refl _)).trans (below_put _ _ _ _ (by omega)))⟩
   simp [results, Tryd.f61, go_sem, hc5]
  case stop =>
   rintro D pre W hD hpre ⟨hp, hcr, hB⟩ hK
   have hcell : W.cell? ⟨w.heap.size, 0, none⟩ = some (.bool false) := by rw [cell_of_row W _ 0 _ _ _ hcr]; rfl
   have hfa : (seg s).all goodB = false := by
    obtain ⟨r, hr⟩ := hpre
    rw [← hr, List.all_append, hp]; rfl
   gi_wp2
   have hc5 : (W.putObj D (.deferred none)).cell? ⟨w.heap.size, 0, none⟩ = some (.bool false) :=
    (World.cell?_of_block (a := ⟨w.heap.size, 0, none⟩) (World.putObj_heap_other (by show w.heap.size ≠ D; omega))).trans hcell
   refine ⟨by simp, .inl ⟨_, _, rfl, run_takeDeferred hK, ?_⟩⟩
   refine ⟨.bool false, ?_, by rw [HP.out, hfa], hB.trans (below_put _ _ _ _ (by omega))⟩
   simp [results, Tryd.f61, go_sem, hc5]
 ·have HP : Hid (pathB s = false) := by show _ = _; unfold pathB; rw [decide_eq_false h0, Bool.and_false]; rfl
  obtain ⟨v, hv⟩ : ∃ v, Lib.indexByte s.data.toList 0 = v := ⟨_, rfl⟩
  have hc : ∀ w, Calls Tryd.prog 38 #[.string s, .int .u8 0] w fun e w' => e = .returned (.int .i64 v) ∧ w = w' := fun w => (indexByte_anyP s 0 w).mono fun e w' ⟨he, hw⟩ => ⟨by rw [he, ← hv]; rfl, hw⟩
  rw [hv] at h0
  have hd2 : decide (v ≥ 0) = true := by simp; omega
  have HC := zh hc; clear hc hv
  go_enter Tryd.func61, Tryd.ntmps61
  go_wp2_with fail
  refine (HC.out _).mono ?_
  rintro e w' ⟨rfl, rfl⟩
  go_wp2_with fail
  refine bodyPost_ret (v := .bool false) (by simp [results, Tryd.f61, go_sem]) rfl ⟨by rw [HP.out], ?_⟩
  exact (Below.refl _ _).alloc (Nat.le_refl _) _
def badE (x : En) : Bool := decide (x.d = zed) || !pathB x.p
theorem incorrect_any (x : En) (w : World) (hx : OkE x) :
 Calls Tryd.prog 43 #[.agg (enL x).toArray] w fun e w' => e = .returned (.bool (badE x)) ∧ Below w.heap.size w w' := by
 have HN := zh (EnB.new w x)
 have HB := zh ((Below.refl w.heap.size w).alloc (Nat.le_refl _) (.cells (enL x).toArray 46))
 have HO := zh (info_d hx)
 have he := eqlZ x.d hx.1
 clear hx
 by_cases hz : x.d = zed
 ·have HZ : Hid (badE x = true) := by show _ = _; unfold badE; rw [decide_eq_true hz]; rfl
  rw [decide_eq_true hz] at he
  clear hz
  go_enter Tryd.func43, Tryd.ntmps43
  go_wp2_with (generalize hw0 : World.alloc w _ = w0; have hr : EnB w0 w.heap.size x := (by rw [← hw0]; exact HN.out); have hbb : Below w.heap.size w w0 := (by rw [← hw0]; exact HB.out); have HR := zh hr; have HBB := zh hbb; clear hw0 hr hbb; refine wpList_load_mid rfl 44 _ rfl w.heap.size 1 rfl _ _ HR.out.d Tryd.underlying44 rfl HO.out ?_)
  go_ret
  exact ⟨ret_boolP HZ.out.symm, HBB.out⟩
 ·have HZ : Hid (badE x = !pathB x.p) := by show _ = _; unfold badE; rw [decide_eq_false hz]; rfl
  rw [decide_eq_false hz] at he
  clear hz
  go_enter Tryd.func43, Tryd.ntmps43
  go_wp2_with (generalize hw0 : World.alloc w _ = w0; have hr : EnB w0 w.heap.size x := (by rw [← hw0]; exact HN.out); have hbb : Below w.heap.size w w0 := (by rw [← hw0]; exact HB.out); have hp := hr.p; have HR := zh hr; have HBB := zh hbb; clear hw0 hr hbb; refine wpList_load_mid rfl 44 _ rfl w.heap.size 1 rfl _ _ HR.out.d Tryd.underlying44 rfl HO.out ?_)
  refine (Path_any x.p _).mono ?_
  rintro e w1 ⟨rfl, hb1⟩
  have HB1 := zh hb1; clear hb1
  go_wp2
  go_ret
  exact ⟨ret_boolP HZ.out.symm, HBB.out.trans (HB1.out.mono HBB.out.size)⟩
structure EnsIn (w : World) (B : Nat) (sp : Option Addr) (n cap : Nat) (l : List En) : Prop where
 len : l.length = n
 ok : ∀ x ∈ l, OkE x
 cells : 0 < n → ∃ b off, sp = some ⟨b, off, none⟩ ∧ b < B ∧ n ≤ cap ∧ ∀ i x, l[i]? = some x → w.rangeAt b (off + i * 33) (enL x)
structure CgsIn (w : World) (B : Nat) (sp : Option Addr) (n cap : Nat) (l : List Cg) : Prop where
 len : l.length = n
 ok : ∀ x ∈ l, OkC x
 cells : 0 < n → ∃ b off, sp = some ⟨b, off, none⟩ ∧ b < B ∧ n ≤ cap ∧ ∀ i x, l[i]? = some x → w.rangeAt b (off + i * 65) (cgL x)
theorem range_belowS {w w' : World} {b o B : Nat} {cs : List Value} (h : w.rangeAt b o cs) (hb : Below B w w') (hlt : b < B) : w'.rangeAt b o cs := fun j v hv => (hb.cell (p := ⟨b, o + j, none⟩) hlt).trans (h j v hv)
theorem EnsIn.below {w w' : World} {B B' : Nat} {sp : Option Addr} {n cap : Nat} {l : List En} (h : EnsIn w B sp n cap l) (hb : Below B' w w') (hB : B ≤ B') : EnsIn w' B' sp n cap l :=
 ⟨h.len, h.ok, fun hn => by
  obtain ⟨b, off, e, hlt, hc, hr⟩ := h.cells hn
  exact ⟨b, off, e, by omega, hc, fun i x hi => range_belowS (hr i x hi) hb (by omega)⟩⟩
theorem CgsIn.below {w w' : World} {B B' : Nat} {sp : Option Addr} {n cap : Nat} {l : List Cg} (h : CgsIn w B sp n cap l) (hb : Below B' w w') (hB : B ≤ B') : CgsIn w' B' sp n cap l :=
 ⟨h.len, h.ok, fun hn => by
  obtain ⟨b, off, e, hlt, hc, hr⟩ := h.cells hn
  exact ⟨b, off, e, by omega, hc, fun i x hi => range_belowS (hr i x hi) hb (by omega)⟩⟩
def IdxResE (w : World) (a : Bool) (e : Ending) (w' : World) : Prop := ∃ r : Int, e = .returned (.int .i64 r) ∧ decide (r ≥ 0) = a ∧ Below w.heap.size w w'
theorem indexE_any (sp : Option Addr) (n cap : Nat) (l : List En) (w : World) (hl : EnsIn w w.heap.size sp n cap l) (hn : n ≤ 1000000) :
 Calls Tryd.prog 60 #[.slice sp n cap, .func (.func 43) #[] #[]] w (IdxResE w (l.any badE)) := by
 have HL := zh hl
 clear hl
 go_enter Tryd.func60, Tryd.ntmps60
 go_wp2_with fail
 go_loopw [8] (fun i wr => ∃ k : Nat, k ≤ n ∧ i = .int .i64 k ∧ Hid ((l.take k).any badE = false) ∧ Hid (Below w.heap.size w wr)) (fun i _ => n - (intOf i).toNat)
 case atStart => exact ⟨0, Nat.zero_le _, rfl, rfl, Below.refl _ _⟩
 case round =>
  obtain ⟨k, hk, rfl, HA, hbe⟩ := hrel
  by_cases hlt : k < n
  ·have hd : decide ((k : Int) < (n : Int)) = true := by simp; omega
   obtain ⟨b, off, rfl, hbB, hcap, hr⟩ := HL.out.cells (by omega)
   have hkl : k < l.length := by rw [HL.out.len]; exact hlt
   obtain ⟨x, hx⟩ : ∃ x, l[k]? = some x := ⟨l[k], List.getElem?_eq_getElem hkl⟩
   have hxm : x ∈ l := List.mem_of_getElem? hx
   have HR := zh (range_belowS (hr k x hx) hbe.out hbB)
   have HI := zh (info_e (HL.out.ok x hxm))
   have HT : Hid ((l.take (k + 1)).any badE = ((l.take k).any badE || badE x)) := by show _ = _; rw [List.take_add_one, List.any_append, hx]; simp
   have HM : Hid (badE x = true → l.any badE = true) := fun h => List.any_eq_true.2 ⟨x, hxm, h⟩
   have p1 : (0 : Int) ≤ (k : Int) := by omega
   have p2 : (k : Int) < (n : Int) := by omega
   have hF := fun w' => incorrect_any x w' (HL.out.ok x hxm)
   clear hr hx hxm hkl
   obtain ⟨c, hc⟩ : ∃ c, badE x = c := ⟨_, rfl⟩
   rw [hc] at hF
   have HC := zh hF; have HQ := zh hc
   clear hF hc
   cases c
   ·go_wp2_with (refine wpList_load_mid rfl 46 _ rfl b (off + k * 33) rfl _ _ HR.out Tryd.underlying46 rfl HI.out ?_)
    refine (HC.out _).mono ?_
    rintro e w1 ⟨rfl, hb1⟩
    have HB1 := zh (hbe.out.trans (hb1.mono hbe.out.size)); clear hb1
    go_wp2_with fail
    go_roundw
    case rel => exact ⟨k + 1, hlt, by go_num, by show _ = _; rw [HT.out, HA.out, HQ.out]; rfl, HB1.out⟩
    case measure => simp [intOf]; omega
   ·go_wp2_with (refine wpList_load_mid rfl 46 _ rfl b (off + k * 33) rfl _ _ HR.out Tryd.underlying46 rfl HI.out ?_)
    refine (HC.out _).mono ?_
    rintro e w1 ⟨rfl, hb1⟩
    have HB1 := zh (hbe.out.trans (hb1.mono hbe.out.size)); clear hb1
    go_wp2_with fail
    go_ret
    exact ⟨k, rfl, by rw [HM.out HQ.out]; simp, HB1.out⟩
  ·obtain rfl : k = n := by omega
   have hd : decide ((k : Int) < (k : Int)) = false := by simp
   have HZ : Hid (l.any badE = false) := by have := HA.out; rw [List.take_of_length_le (by rw [HL.out.len]; exact Nat.le_refl _)] at this; exact this
   go_wp2_with fail
   go_ret
   exact ⟨-1, rfl, by rw [HZ.out]; rfl, hbe.out⟩
theorem containsE_any (sp : Option Addr) (n cap : Nat) (l : List En) (w : World) (hl : EnsIn w w.heap.size sp n cap l) (hn : n ≤ 1000000) :
 Calls Tryd.prog 42 #[.slice sp n cap, .func (.func 43) #[] #[]] w fun e w' => e = .returned (.bool (l.any badE)) ∧ Below w.heap.size w w' := by
 have HL := zh hl
 clear hl
 go_enter Tryd.func42, Tryd.ntmps42
 go_wp2_with fail
 refine (indexE_any sp n cap l _ HL.out hn).mono ?_
 rintro e w1 ⟨r, rfl, hr, hb⟩
 have HR := zh hr; have HB := zh hb; clear hr hb
 go_wp2_with fail
 go_ret
 exact ⟨ret_boolP HR.out, HB.out⟩
theorem ascendE_any (sp : Option Addr) (n cap : Nat) (l : List En) (w : World) (hl : EnsIn w w.heap.size sp n cap l) (hn : n ≤ 1000000) :
 Calls Tryd.prog 44 #[.slice sp n cap, .func (.func 45) #[] #[]] w fun e w' => e = .returned (.bool (ascB En.p l)) ∧ Below w.heap.size w w' := by
 have HL := zh hl
 clear hl
 go_enter Tryd.func44, Tryd.ntmps44
 go_wp2_with fail
 go_loopw [5] (fun i wr => ∃ k : Nat, k ≤ n ∧ i = .int .i64 ((k : Int) + 1) ∧ Hid (upto En.p l k = true) ∧ Hid (Below w.heap.size w wr)) (fun i _ => n + 1 - (intOf i).toNat)
 case atStart => exact ⟨0, Nat.zero_le _, rfl, rfl, Below.refl _ _⟩
 case round =>
  obtain ⟨k, hk, rfl, HA, hbe⟩ := hrel
  by_cases hlt : k + 1 < n
  ·have hd : decide ((k : Int) + 1 < (n : Int)) = true := by simp; omega
   obtain ⟨b, off, rfl, hbB, hcap, hr⟩ := HL.out.cells (by omega)
   have hkl : k + 1 < l.length := by rw [HL.out.len]; exact hlt
   obtain ⟨x, hx⟩ : ∃ x, l[k]? = some x := ⟨l[k], List.getElem?_eq_getElem (by omega)⟩
   obtain ⟨y, hy⟩ : ∃ y, l[k + 1]? = some y := ⟨l[k + 1], List.getElem?_eq_getElem hkl⟩
   have HX := zh (fun w' (hb : Below w.heap.size w w') => range_belowS (hr k x hx) hb hbB)
   have HY := zh (fun w' (hb : Below w.heap.size w w') => range_belowS (hr (k + 1) y hy) hb hbB)
   have HIX := zh (info_e (HL.out.ok x (List.mem_of_getElem? hx)))
   have HIY := zh (info_e (HL.out.ok y (List.mem_of_getElem? hy)))
   have HT := zh (upto_succ (f := En.p) hx hy)
   have p1 : (0 : Int) ≤ (k : Int) := by omega
   have p2 : (k : Int) < (n : Int) := by omega
   have p3 : (0 : Int) ≤ (k : Int) + 1 := by omega
   have p4 : (k : Int) + 1 < (n : Int) := by omega
   have q1 : (k : Int) + 1 - 1 = (k : Int) := by omega
   have q2 : ((k : Int) + 1).toNat = k + 1 := by omega
   have q3 : IntKind.i64.wrap ((k : Int) + 1 - 1) = (k : Int) := by rw [q1]; exact IntWalk.i64_in _ (by omega)
   have q4 : IntKind.i64.wrap (k : Int) = (k : Int) := IntWalk.i64_in _ (by omega)
   have q5 : IntKind.i64.wrap ((k : Int) + 1) = (k : Int) + 1 := IntWalk.i64_in _ (by omega)
   clear hr hx hy hkl
   have HALL : Hid (∀ w', Below w.heap.size w w' → w'.rangeAt b (off + k * 33) (enL x) ∧ w'.rangeAt b (off + (k + 1) * 33) (enL y)) := fun w' hb => ⟨HX.out _ hb, HY.out _ hb⟩
   have hbd := hbe.out.drew
   obtain ⟨c, hc⟩ : ∃ c, Op.bytesLess x.p.toList y.p.toList = c := ⟨_, rfl⟩
   have HC : Hid (pls x.p y.p = c) := hc
   go_wp2_with fail
   refine wp_region_held_drew (S := fun w' => w'.rangeAt b (off + k * 33) (enL x) ∧ w'.rangeAt b (off + (k + 1) * 33) (enL y)) (by kernel_rfl) (HALL.out _ hbd) (fun hHeld => ?_)
   refine zv 0 rfl ?_
   try simp only [Act.put, List.getElem_toArray, List.getElem_cons_zero, List.setIfInBounds_toArray, List.set_cons_zero, List.set_cons_succ]
   refine zv 1 rfl ?_
   refine zv 2 rfl ?_
   refine zv 3 rfl ?_
   refine zv 4 rfl ?_
   refine zv 7 rfl ?_
   refine zv 8 rfl ?_
   refine zv 9 rfl ?_
   refine zv 10 rfl ?_
   refine' zk 5 rfl (v := _) (yieldsIf_load_mid (by rfl) _ _ rfl _ _ rfl _ _ ?hS5 Tryd.underlying46 rfl HIX.out) ?rest5
   case hS5 =>
    intro w' hSw
    exact hSw.1
   try simp only [Act.put, zA, zB, zC, zD, zY, zF]
   refine' zk 11 rfl (v := _) (yieldsIf_load_mid (by rfl) _ _ rfl _ _ rfl _ _ ?hS11 Tryd.underlying46 rfl HIY.out) ?rest11
   case hS11 =>
    intro w' hSw
    exact hSw.2
   try simp only [Act.put, zA, zB, zC, zD, zY, zF]
   refine zr 6 rfl (fun K hK => ?_)
   go_simp
   with_reducible refine (entryPath_any x _).mono ?_
   rintro e w1 ⟨rfl, hb1⟩
   go_wp2_with fail
   refine hK.out _ _ (HALL.out _ (hbd.trans (hb1.mono hbd.size))) fun _ => ?_; clear hK K
   try simp only [Act.put, zA, zB, zC, zD, zY, zF]
   refine zr 12 rfl (fun K hK => ?_)
   go_simp
   with_reducible refine (entryPath_any y _).mono ?_
   rintro e w2 ⟨rfl, hb2⟩
   go_wp2_with fail
   refine hK.out _ _ (HALL.out _ (hbd.trans ((hb1.trans (hb2.mono hb1.size)).mono hbd.size))) fun _ => ?_; clear hK K
   try simp only [Act.put, zA, zB, zC, zD, zY, zF]
   refine zv 13 rfl ?_
   refine zd ?_ _
   have HB2 := zh (hbd.trans ((hb1.trans (hb2.mono hb1.size)).mono hbd.size))
   clear hb1 hb2 hbd hHeld hc
   have HM : Hid (upto En.p l (k + 1) = c) := by show _ = _; rw [HT.out, HA.out, HC.out]; rfl
   cases c
   ·have HZ : Hid (ascB En.p l = false) := upto_false HM.out (by rw [HL.out.len]; omega)
    go_wp2_with fail
    go_ret
    exact ⟨ret_boolP HZ.out.symm, HB2.out⟩
   ·go_wp2_with fail
    go_roundw
    case rel => exact ⟨k + 1, by omega, by go_num, HM.out, HB2.out⟩
    case measure => simp [intOf]; omega
  ·have hd : decide ((k : Int) + 1 < (n : Int)) = false := by simp; omega
   have HZ : Hid (ascB En.p l = true) := by
    show upto En.p l (l.length - 1) = true
    have h1 := HA.out
    unfold upto at h1 ⊢
    rw [List.all_eq_true] at h1 ⊢
    intro i hi
    exact h1 i (by simp at hi ⊢; have := HL.out.len; omega)
   go_wp2_with fail
   go_ret
   exact ⟨ret_boolP HZ.out.symm, hbe.out⟩
def vldE (l : List En) : Bool := decide (l.length ≤ 64) && !l.any badE && ascB En.p l
theorem Valid_any (sp : Option Addr) (n cap : Nat) (l : List En) (w : World) (hl : EnsIn w w.heap.size sp n cap l) (hn : n ≤ 1000000) :
 Calls Tryd.prog 24 #[.slice sp n cap] w fun e w' => e = .returned (.bool (vldE l)) ∧ Below w.heap.size w w' := by
 have HL := zh hl
 clear hl
 by_cases h64 : n ≤ 64
 ·have hd : decide ((n : Int) ≤ 64) = true := by simp; omega
  have HV : Hid (vldE l = (!l.any badE && ascB En.p l)) := by show _ = _; unfold vldE; rw [decide_eq_true (by rw [HL.out.len]; exact h64)]; rfl
  obtain ⟨c, hc⟩ : ∃ c, l.any badE = c := ⟨_, rfl⟩
  have hF := fun w' (h : EnsIn w' w'.heap.size sp n cap l) => containsE_any sp n cap l w' h hn
  rw [hc] at hF
  have HC := zh hF; have HQ := zh hc
  clear hF hc h64
  cases c
  ·go_enter Tryd.func24, Tryd.ntmps24
   go_wp2_with fail
   refine (HC.out _ HL.out).mono ?_
   rintro e w1 ⟨rfl, hb1⟩
   have HB1 := zh hb1; clear hb1
   go_wp2_with fail
   refine (ascendE_any sp n cap l _ (HL.out.below (HB1.out) (Nat.le_refl _) |>.below (Below.refl w1.heap.size w1) HB1.out.size) hn).mono ?_
   rintro e w2 ⟨rfl, hb2⟩
   have HB2 := zh hb2; clear hb2
   go_wp2_with fail
   go_ret
   exact ⟨ret_boolP (by rw [HV.out, HQ.out]; rfl), HB1.out.trans (HB2.out.mono HB1.out.size)⟩
  ·go_enter Tryd.func24, Tryd.ntmps24
   go_wp2_with fail
   refine (HC.out _ HL.out).mono ?_
   rintro e w1 ⟨rfl, hb1⟩
   have HB1 := zh hb1; clear hb1
   go_wp2_with fail
   go_ret
   exact ⟨ret_boolP (by rw [HV.out, HQ.out]; rfl), HB1.out⟩
 ·have hd : decide ((n : Int) ≤ 64) = false := by simp; omega
  have HV : Hid (vldE l = false) := by show _ = _; unfold vldE; rw [decide_eq_false (by rw [HL.out.len]; exact h64)]; rfl
  go_enter Tryd.func24, Tryd.ntmps24
  go_wp2_with fail
  go_ret
  exact ⟨ret_boolP HV.out.symm, Below.refl _ _⟩
theorem enA_one (x : En) : (enL x).toArray.all (·.oneCell') = true := Array.all_eq_true_iff_forall_mem.2 (by simpa using enL_one x)
theorem infoE3 : (Tryd.prog.info? 46).map (fun i => (i.zero, i.size, i.bytes)) = some (some (.agg zE.toArray), 33, 48) := by kernel_rfl
theorem wpList_build_eq {P : Program} {w : World} {ops : Array Oper} {rest : List Oper} {o : Oper} {a : Act} {Q : Exit → Act → World → Prop} (hgd : o.guard = none) (t : TypeId) (parts : List (Nat × Operand)) (ho : o.op = .build t parts.toArray)
 (vs : List (Nat × Value)) (hv : (parts.map fun (i, x) => (i, a.eval x)) = vs) (v : Value) (hrun : (Instr.build t vs.toArray).run P w = .ok v w) (h : wpList P ops Q rest (a.put o.dst v) w) : wpList P ops Q (o :: rest) a w :=
 wpList_plain hgd fun _ hK => by
  unfold Oper.wp execOp
  simp only [ho, Sem.run_bind, List.map_toArray, hv, hrun, Result.andThen_ok]
  exact hK _ _ h
theorem wpList_slice_eq {P : Program} {w : World} {ops : Array Oper} {rest : List Oper} {o : Oper} {a : Act} {Q : Exit → Act → World → Prop} (hgd : o.guard = none) (t : TypeId) (n : Nat) (parts : List (Nat × Operand)) (ho : o.op = .buildSlice t n parts.toArray)
 (vs : List (Nat × Value)) (hv : (parts.map fun (i, x) => (i, a.eval x)) = vs) (v : Value) (w' : World) (hrun : (Instr.buildSlice t n vs.toArray).run P w = .ok v w') (h : wpList P ops Q rest (a.put o.dst v) w') : wpList P ops Q (o :: rest) a w :=
 wpList_plain hgd fun _ hK => by
  unfold Oper.wp execOp
  simp only [ho, Sem.run_bind, List.map_toArray, hv, hrun, Result.andThen_ok]
  exact hK _ _ h
theorem own_shapeS {w : World} {base e size : Nat} {v : Value} {n : Nat} {xs : List Value} (h : w.ownsRow base e size v n xs) : ∃ sp cap, v = .slice sp n cap := by
 obtain ⟨_, ⟨rfl, h0⟩ | ⟨g, cap, _, rfl, _⟩⟩ := h
 ·subst h0; exact ⟨_, _, rfl⟩
 ·exact ⟨_, _, rfl⟩
theorem own_baseS {w : World} {base e size : Nat} {v : Value} {n : Nat} {xs : List Value} (h : w.ownsRow base e size v n xs) : ∀ k, v.ownBlock = some k → base ≤ k := by
 intro k hk
 obtain ⟨_, ⟨rfl, _⟩ | ⟨g, cap, _, rfl, hb, _⟩⟩ := h
 ·cases hk
 ·injection hk with hk; subst hk; exact hb
theorem own_belowS {w w' : World} {base e size : Nat} {v : Value} {n : Nat} {xs : List Value} (h : w.ownsRow base e size v n xs) (hb : Below w.heap.size w w') : w'.ownsRow base e size v n xs := by
 obtain ⟨hl, h1 | ⟨g, cap, cur, rfl, hbg, hg, rest⟩⟩ := h
 ·exact ⟨hl, .inl h1⟩
 ·exact ⟨hl, .inr ⟨g, cap, cur, rfl, hbg, (hb.block g (Array.getElem?_eq_some_iff.1 hg).1).trans hg, rest⟩⟩
def rowsE (l : List En) : List Value := l.flatMap enL
theorem rowsE_snoc (l : List En) (x : En) : rowsE (l ++ [x]) = rowsE l ++ enL x := by simp [rowsE]
def OwnE (w : World) (base : Nat) (v : Value) (l : List En) : Prop := w.ownsRow base 46 33 v l.length (rowsE l) ∧ ∀ x ∈ l, OkE x
theorem flat_at {α : Type} (f : α → List Value) (sz : Nat) : ∀ (l : List α), (∀ x ∈ l, (f x).length = sz) → ∀ i x, l[i]? = some x → ∀ j v, (f x)[j]? = some v → (l.flatMap f)[i * sz + j]? = some v
 | [], _, i, x, hi, _, _, _ => by simp at hi
 | y :: l, h, 0, x, hi, j, v, hv => by
   have e : y = x := by simpa using hi
   subst e
   have hj := (List.getElem?_eq_some_iff.1 hv).1
   rw [List.flatMap_cons, Nat.zero_mul, Nat.zero_add, List.getElem?_append_left hj, hv]
 | y :: l, h, i + 1, x, hi, j, v, hv => by
   have hy := h y (by simp)
   rw [List.flatMap_cons, List.getElem?_append_right (by rw [hy, Nat.add_mul]; omega), hy, show (i + 1) * sz + j - sz = i * sz + j by rw [Nat.add_mul]; omega]
   exact flat_at f sz l (fun z hz => h z (by simp [hz])) i x (by simpa using hi) j v hv
theorem own_range {α : Type} {f : α → List Value} {sz : Nat} {w : World} {base e : Nat} {g n cap : Nat} {l : List α} (h : w.ownsRow base e sz (.slice (some ⟨g, 0, none⟩) n cap) l.length (l.flatMap f)) (hs : ∀ x ∈ l, (f x).length = sz) (hn : l.length = n) :
 g < w.heap.size ∧ n ≤ cap ∧ ∀ i x, l[i]? = some x → w.rangeAt g (0 + i * sz) (f x) := by
 obtain ⟨_, ⟨h1, _⟩ | ⟨g', cap', cur, h1, _, hg, hle, _, hsz, htk⟩⟩ := h
 ·cases h1
 ·injection h1 with h1 h2 h3
  injection h1 with h1; injection h1 with h1
  subst h1; subst h3
  refine ⟨(Array.getElem?_eq_some_iff.1 hg).1, by omega, fun i x hi j v hv => ?_⟩
  show w.cell? ⟨g, 0 + i * sz + j, none⟩ = some v
  rw [cell_of_row w g _ cur e _ hg, Nat.zero_add]
  have h4 := flat_at f sz l hs i x hi j v hv
  rw [← htk, List.getElem?_take] at h4
  split at h4
  ·simpa using h4
  ·cases h4
theorem OwnE.ens {w : World} {base : Nat} {sp : Option Addr} {n cap : Nat} {l : List En} (h : OwnE w base (.slice sp n cap) l) (hn : l.length = n) : EnsIn w w.heap.size sp n cap l := by
 refine ⟨hn, h.2, fun h0 => ?_⟩
 have h1 := h.1
 obtain ⟨_, ⟨e, e0⟩ | ⟨g, cap', cur, e, _⟩⟩ := h.1
 ·omega
 ·injection e with e1 e2 e3
  subst e1
  obtain ⟨hg, hc, hr⟩ := own_range (f := enL) h1 (fun x hx => enL_length (h.2 x hx)) hn
  exact ⟨g, 0, rfl, hg, hc, hr⟩
theorem OwnE.shape {w : World} {base : Nat} {v : Value} {l : List En} (h : OwnE w base v l) : ∃ sp cap, v = .slice sp l.length cap := own_shapeS h.1
theorem OwnE.below {w w' : World} {base : Nat} {v : Value} {l : List En} (h : OwnE w base v l) (hb : Below w.heap.size w w') : OwnE w' base v l := ⟨own_belowS h.1 hb, h.2⟩
theorem OwnE.nil (w : World) (base : Nat) : OwnE w base (.slice none 0 0) [] := ⟨World.ownsRow_nil w base _ _, by simp⟩
theorem wpList_append_en {w : World} {ops : Array Oper} {rest : List Oper} {o : Oper} {a : Act} {Q : Exit → Act → World → Prop} (hgd : o.guard = none) (s x : Operand)
 (ho : o.op = .call { callee := .builtin .append, args := #[s, x], argTypes := #[24, 24] }) (base : Nat) (v : Value) (l : List En) (n : Nat) (hn : n = l.length) (hs : a.eval s = v) (hown : OwnE w base v l)
 (g : Nat) (y : En) (hx : a.eval x = .slice (some ⟨g, 0, none⟩) 1 1) (hy : EnB w g y) (hok : OkE y) (hlen : n ≤ 1000000) (hbase : base ≤ w.heap.size)
 (h : ∀ sp cap w', Hid (OwnE w' base (.slice sp (n + 1) cap) (l ++ [y])) → Hid (Below base w w') → Hid (w.grownBy w' v.ownBlock) → wpList Tryd.prog ops Q rest (a.put o.dst (.slice sp (n + 1) cap)) w') : wpList Tryd.prog ops Q (o :: rest) a w := by
 subst hn
 obtain ⟨i0, hi0, hz0, hz1, hz2⟩ := info_parts infoE3
 refine wpList_append_own w hgd s x _ ho base _ i0 _ 33 48 Tryd.underlying24 hi0 hz0 hz1 hz2 rfl (by decide) v l.length _ hs hown.1 ⟨g, 0, none⟩ 1 1 (enL y) hx (by rw [enL_length hok]) ?_ (enL_one y) (by unfold maxLen; omega) (by omega) hbase ?_
 ·intro j u hj
  rw [Addr.add_mid]
  exact hy.all j u hj
 ·intro v' w' h1 h2 _
  obtain ⟨sp, cap, rfl⟩ := own_shapeS h1
  refine h sp cap w' ⟨by rw [rowsE_snoc, List.length_append]; exact h1, fun z hz => ?_⟩ ((Below.refl base w).grown h2 hbase (own_baseS hown.1)) h2
  rcases List.mem_append.1 hz with hz | hz
  ·exact hown.2 z hz
  ·rw [List.mem_singleton.1 hz]; exact hok
theorem CgsIn.at {w : World} {B g off n cap : Nat} {l : List Cg} (h : CgsIn w B (some ⟨g, off, none⟩) n cap l) {i : Nat} {x : Cg} (hi : l[i]? = some x) : g < B ∧ w.rangeAt g (off + i * 65) (cgL x) := by
 have hl := (List.getElem?_eq_some_iff.1 hi).1
 obtain ⟨b, o, e, hb, _, hr⟩ := h.cells (by have := h.len; omega)
 injection e with e; injection e with e1 e2; subst e1 e2
 exact ⟨hb, hr i x hi⟩
theorem rng_sub {w : World} {g o : Nat} {cs : List Value} (h : w.rangeAt g o cs) (k : Nat) (sub : List Value) (hs : ∀ j v, sub[j]? = some v → cs[k + j]? = some v) : w.rangeAt g (o + k) sub := by
 intro j v hv
 have := h (k + j) v (hs j v hv)
 show w.cell? ⟨g, o + k + j, none⟩ = some v
 rw [Nat.add_assoc]; exact this
structure SbIn (w : World) (B ba bb : Nat) (spa : Option Addr) (na ca : Nat) (a : List Cg) (spb : Option Addr) (nb cb : Nat) (b : List Cg) : Prop where
 pa : w.cell? ⟨ba, 0, none⟩ = some (.slice spa na ca)
 pb : w.cell? ⟨bb, 0, none⟩ = some (.slice spb nb cb)
 la : CgsIn w B spa na ca a
 lb : CgsIn w B spb nb cb b
def Keep3 (B ba bb : Nat) (W W' : World) : Prop := W.heap.size ≤ W'.heap.size ∧ (∀ k, k < B → W'.heap[k]? = W.heap[k]?) ∧ W'.heap[ba]? = W.heap[ba]? ∧ W'.heap[bb]? = W.heap[bb]?
theorem Keep3.trans {B ba bb : Nat} {X Y Z : World} (h : Keep3 B ba bb X Y) (k : Keep3 B ba bb Y Z) : Keep3 B ba bb X Z := ⟨Nat.le_trans h.1 k.1, fun i hi => (k.2.1 i hi).trans (h.2.1 i hi), k.2.2.1.trans h.2.2.1, k.2.2.2.trans h.2.2.2⟩
theorem CgsIn.keep {w w' : World} {B : Nat} {sp : Option Addr} {n cap : Nat} {l : List Cg} (h : CgsIn w B sp n cap l) (hk : ∀ k, k < B → w'.heap[k]? = w.heap[k]?) : CgsIn w' B sp n cap l :=
 ⟨h.len, h.ok, fun hn => by
  obtain ⟨b, off, e, hlt, hc, hr⟩ := h.cells hn
  exact ⟨b, off, e, hlt, hc, fun i x hi j v hv => (World.cell?_of_block (a := ⟨b, off + i * 65 + j, none⟩) (hk b hlt)).trans (hr i x hi j v hv)⟩⟩
theorem SbIn.keep {w w' : World} {B ba bb : Nat} {spa : Option Addr} {na ca : Nat} {a : List Cg} {spb : Option Addr} {nb cb : Nat} {b : List Cg} (h : SbIn w B ba bb spa na ca a spb nb cb b) (hk : Keep3 B ba bb w w') : SbIn w' B ba bb spa na ca a spb nb cb b :=
 ⟨(World.cell?_of_block (a := ⟨ba, 0, none⟩) hk.2.2.1).trans h.pa, (World.cell?_of_block (a := ⟨bb, 0, none⟩) hk.2.2.2).trans h.pb, h.la.keep hk.2.1, h.lb.keep hk.2.1⟩
section
variable {F : Fence} {n : Nat} {P : Program} {ops : Array Oper} {rest : List Oper} {o : Oper} {a : Act} {w : World} {Q : Exit → Act → World → Prop}
end
end Go.Proofs.YtecllfbadciaoaaDoor
