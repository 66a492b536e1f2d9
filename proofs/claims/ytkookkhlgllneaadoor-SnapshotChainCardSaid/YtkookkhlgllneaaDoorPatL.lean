/-
  The law of a loop over strings.SplitSeq's iterator (a separator of one byte) whose body goes on or returns: the caller's word on memory abides whatever happens behind its own blocks.
-/
import Derived.Test.YtkookkhlgllneaaDoorPatB
import Derived.RangeFuncFrom
namespace Go.Proofs.YtkookkhlgllneaaDoor
open Go.RowKit

/-- how a round may be left: it goes on, or it returns; the blocks from cs on lie as they lay -/
def Tail (cs : Nat) (W W' : World) : Prop := W.heap.size ≤ W'.heap.size ∧ ∀ k, cs ≤ k → k < W.heap.size → W'.heap[k]? = W.heap[k]?
def spPost (cs : Nat) (I Ix : List ByteArray → World → Prop) (xs : List ByteArray) (W : World) : Exit → Act → World → Prop
  | .normal, _, W' => Tail cs W W' ∧ I xs W'
  | .ret, _, W' => Tail cs W W' ∧ Ix xs W'
  | _, _, _ => False
theorem below_put (B : Nat) (W : World) (l : Nat) (o : Obj) (hB : B ≤ l) : Below B W (W.putObj l o) := ⟨rfl, rfl, rfl, by simp, fun k hk => World.putObj_heap_other (by omega)⟩
theorem below_set (B : Nat) (W : World) (c : Nat) (v : Value) (hB : B ≤ c) : Below B W (W.setCell ⟨c, 0, none⟩ v) := (Below.refl B W).setCell (p := ⟨c, 0, none⟩) hB v

set_option maxHeartbeats 400000 in
theorem wpIn_split {n : Nat} {p : Tmp} {g : Operand} {assign body : Code} {Q : Exit → Act → World → Prop} {a : Act} {w : World} (cs ce cv : Nat) (s : ByteArray) (hss : s.size ≤ 1000000)
    (hg : a.eval g = .func (.func 171) #[] #[.pointer (some ⟨ce, 0, none⟩), .pointer (some ⟨cs, 0, none⟩), .pointer (some ⟨cv, 0, none⟩)])
    (hc : SpIn w cs ce cv s) (h1 : cs < ce) (h2 : cs < cv) (h3 : ce < w.heap.size) (h4 : cv < w.heap.size)
    (I Ix : List ByteArray → World → Prop) (hI : ∀ xs W W', I xs W → Below cs W W' → I xs W') (hIx : ∀ xs W W', Ix xs W → Below cs W W' → Ix xs W') (h0 : I [] w) (act : ByteArray → Act)
    (hassign : ∀ (l : Nat) (x : ByteArray) (W : World) (K : Act → World → Prop), K (act x) W →
      assign.wpIn (Fence.wide.inRound l) (n - 1 - 1) Tryd.prog (Exit.then K (fun _ _ _ => False)) { tmps := (#[p].zip #[Value.string x]).foldl (fun t (q, v) => t.setIfInBounds q v) a.tmps, defers := [] } W)
    (hbody : ∀ (l : Nat) (pre : List ByteArray) (x : ByteArray) (W : World), I pre W → cs < W.heap.size → body.wpIn (Fence.wide.inRound l) (n - 1 - 1) Tryd.prog (spPost cs I Ix (pre ++ [x]) W) (act x) W)
    (hdone : ∀ (D : Nat) (W : World), w.heap.size ≤ D → I (seg s) W → W.heap[D]? = some (.deferred (some [])) → Q .normal { a with defers := { target := .collected D, args := #[] } :: a.defers } W)
    (hstop : ∀ (D : Nat) (pre : List ByteArray) (W : World), w.heap.size ≤ D → pre <+: seg s → Ix pre W → W.heap[D]? = some (.deferred (some [])) → Code.ret.wpIn Fence.wide n Tryd.prog Q { a with defers := { target := .collected D, args := #[] } :: a.defers } W) :
    (Code.rangeFunc g #[p] assign body).wpIn Fence.wide n Tryd.prog Q a w := by
  refine wpIn_rangeFunc (fun fn _ => ?_)
  obtain ⟨D, hD⟩ : ∃ D, w.heap.size = D := ⟨_, rfl⟩
  obtain ⟨r, hr⟩ : ∃ r : LoopState → Option Code → Obj, r = fun st pe => .loop { state := st, pending := pe, fn := fn, tmps := a.tmps, params := #[p], assign := assign, body := body, defers := D } := ⟨_, rfl⟩
  obtain ⟨V, hV⟩ : ∃ V, (w.alloc (.deferred (some []))).alloc (r .ready none) = V := ⟨_, rfl⟩
  have v1 : V.heap[D + 1]? = some (r .ready none) := by
    rw [← hV, ← hD]; have := World.alloc_heap_new (w.alloc (.deferred (some []))) (r .ready none); rwa [World.size_alloc] at this
  have v0 : V.heap[D]? = some (.deferred (some [])) := by
    rw [← hV, ← hD]; exact (Below.heap_alloc _ _ _ (by simp)).trans (World.alloc_heap_new w _)
  have vb : Below w.heap.size w V := by rw [← hV]; exact ((Below.refl _ w).alloc (Nat.le_refl _) _).alloc (by simp) _
  refine ⟨D + 1, [{ target := .collected D, args := #[] }], V, { target := .fn (.func 171) #[.pointer (some ⟨ce, 0, none⟩), .pointer (some ⟨cs, 0, none⟩), .pointer (some ⟨cv, 0, none⟩)], args := #[.func (.yield (D + 1)) #[] #[]] }, V, 171,
    #[.func (.yield (D + 1)) #[] #[], .pointer (some ⟨ce, 0, none⟩), .pointer (some ⟨cs, 0, none⟩), .pointer (some ⟨cv, 0, none⟩)], V, ?_, ?_, fun _ _ => trivial, ?_, (fun h => by cases h), ?_⟩
  · rw [← hV, ← hD, hr, ← hD]; exact run_enterLoop_outer _ _ _ _ _
  · simp only [resolve, hg]; simp [go_sem]
  · simp [invoke, go_sem]
  have ready : ∀ st pe, (r st pe) = .loop { state := st, pending := pe, fn := fn, tmps := a.tmps, params := #[p], assign := assign, body := body, defers := D } := fun st pe => by rw [hr]
  have hI0 : I [] V := hI _ _ _ h0 (vb.mono (by omega))
  refine (split1_in (n - 1) (D + 1) cs ce cv s
    (fun pre W => I pre W ∧ W.heap[D + 1]? = some (r .ready none) ∧ W.heap[D]? = some (.deferred (some [])))
    (fun pre W => Ix pre W ∧ W.heap[D + 1]? = some (r .done (some .ret)) ∧ W.heap[D]? = some (.deferred (some [])))
    hss (by omega) (by omega)
    (fun pre W v hj => ⟨hI _ _ _ hj.1 (below_set cs W cs v (Nat.le_refl _)), (Below.heap_setCell W ⟨cs, 0, none⟩ v (D + 1) (by show D + 1 ≠ cs; omega)).trans hj.2.1, (Below.heap_setCell W ⟨cs, 0, none⟩ v D (by show D ≠ cs; omega)).trans hj.2.2⟩)
    ?_ V (hc.same ⟨vb.block cs (by omega), vb.block ce h3, vb.block cv h4⟩) ⟨hI0, v1, v0⟩).mono ?_
  · -- one round
    rintro pre x W ⟨hi, hl, hk⟩
    have hlt : D + 1 < W.heap.size := (Array.getElem?_eq_some_iff.1 hl).1
    rw [ready] at hl
    have hy := run_yield (P := Tryd.prog) (args := #[.string x]) hl rfl
    refine ⟨fn, _, assign, body, hy, roundIn_of_wpIn trivial ?_⟩
    refine hassign (D + 1) x W _ ?_
    refine ⟨_, run_beginRound hl rfl, ?_⟩
    obtain ⟨W2, hW2⟩ : ∃ W2, W.putObj (D + 1) (r .busy none) = W2 := ⟨_, rfl⟩
    have b2 : Below (D + 1) W W2 := by rw [← hW2]; exact below_put _ _ _ _ (Nat.le_refl _)
    have l2 : W2.heap[D + 1]? = some (r .busy none) := by rw [← hW2]; exact World.putObj_heap_same hlt
    have z2 : W2.heap.size = W.heap.size := by rw [← hW2]; simp
    rw [← ready .busy none, hW2]
    refine wpIn_mono (hbody (D + 1) pre x W2 (hI _ _ _ hi (b2.mono (by omega))) (by omega)) ?_
    have fin : ∀ (jump : Option Code) (W3 : World), Tail cs W2 W3 → (Instr.endRound (D + 1) jump).run Tryd.prog W3 = .ok (.bool jump.isNone) (W3.putObj (D + 1) (r (if jump.isNone then .ready else .done) jump)) ∧
        (W3.putObj (D + 1) (r (if jump.isNone then .ready else .done) jump)).heap[D + 1]? = some (r (if jump.isNone then .ready else .done) jump) ∧
        (W3.putObj (D + 1) (r (if jump.isNone then .ready else .done) jump)).heap[D]? = some (.deferred (some [])) ∧ Below (D + 1) W3 (W3.putObj (D + 1) (r (if jump.isNone then .ready else .done) jump)) := fun jump W3 ht => by
      have l3 : W3.heap[D + 1]? = some (r .busy none) := (ht.2 (D + 1) (by omega) (by omega)).trans l2
      have k3 : W3.heap[D]? = some (.deferred (some [])) := (ht.2 D (by omega) (by omega)).trans ((b2.block D (by omega)).trans hk)
      have hz : D + 1 < W3.heap.size := (Array.getElem?_eq_some_iff.1 l3).1
      rw [ready] at l3
      have := run_endRound (P := Tryd.prog) jump l3
      rw [this]
      exact ⟨by rw [ready], World.putObj_heap_same hz, (World.putObj_heap_other (by omega)).trans k3, below_put _ _ _ _ (Nat.le_refl _)⟩
    rintro e a3 W3 hp
    cases e with
    | normal =>
      obtain ⟨ht, hi3⟩ := hp
      obtain ⟨e1, e2, e3, e4⟩ := fin none W3 ht
      have keep : ∀ k, cs ≤ k → k < D → (W3.putObj (D + 1) (r .ready none)).heap[k]? = W.heap[k]? := fun k hk1 hk2 => (e4.block k (by omega)).trans ((ht.2 k hk1 (by omega)).trans (b2.block k (by omega)))
      exact ⟨_, _, e1, .inl ⟨rfl, ⟨hI _ _ _ hi3 (e4.mono (by omega)), e2, e3⟩, keep cs (Nat.le_refl _) (by omega), keep ce (by omega) (by omega), keep cv (by omega) (by omega)⟩⟩
    | ret =>
      obtain ⟨ht, hi3⟩ := hp
      obtain ⟨e1, e2, e3, e4⟩ := fin (some .ret) W3 ht
      exact ⟨_, _, e1, .inr ⟨rfl, hIx _ _ _ hi3 (e4.mono (by omega)), e2, e3⟩⟩
    | exit id => exact hp.elim
    | goto t => exact hp.elim
    | panic ch => exact hp.elim
    | outgrown => exact hp.elim
  · -- behind the iterator
    rintro e W2 ⟨⟨v, rfl⟩, (⟨hi, hl, hk⟩ | ⟨pre, hpre, hi, hl, hk⟩)⟩
    · rw [ready] at hl
      exact ⟨none, _, run_endLoop (P := Tryd.prog) hl (by simp), hdone D _ (by omega) (hI _ _ _ hi (below_put _ _ _ _ (by omega))) ((World.putObj_heap_other (by omega)).trans hk)⟩
    · rw [ready] at hl
      exact ⟨some .ret, _, run_endLoop (P := Tryd.prog) hl (by simp), hstop D pre _ (by omega) hpre (hIx _ _ _ hi (below_put _ _ _ _ (by omega))) ((World.putObj_heap_other (by omega)).trans hk)⟩
end Go.Proofs.YtkookkhlgllneaaDoor
