/-
  Laws for lists of entries and of changes that a call makes: an append of one, a struct put together (conditions in each theorem).
-/
import Derived.Test.YtkookkhlgllneaaDoorSnC
import Derived.OwnWalk
import Derived.Laws.AppendOwn
namespace Go.Proofs.YtkookkhlgllneaaDoor
open Go.RowKit

theorem enA_one (x : En) : (enL x).toArray.all (·.oneCell') = true := Array.all_eq_true_iff_forall_mem.2 (by simpa using enL_one x)
theorem cgA_one (x : Cg) : (cgL x).toArray.all (·.oneCell') = true := Array.all_eq_true_iff_forall_mem.2 (by simpa using cgL_one x)
theorem infoE3 : (Tryd.prog.info? 70).map (fun i => (i.zero, i.size, i.bytes)) = some (some (.agg zE.toArray), 33, 48) := by kernel_rfl
theorem infoC3 : (Tryd.prog.info? 81).map (fun i => (i.zero, i.size, i.bytes)) = some (some (.agg zC.toArray), 65, 80) := by kernel_rfl
theorem wpList_build_eq {P : Program} {w : World} {ops : Array Oper} {rest : List Oper} {o : Oper} {a : Act} {Q : Exit → Act → World → Prop} (hgd : o.guard = none) (t : TypeId) (parts : List (Nat × Operand)) (ho : o.op = .build t parts.toArray)
    (vs : List (Nat × Value)) (hv : (parts.map fun (i, x) => (i, a.eval x)) = vs) (v : Value) (hrun : (Instr.build t vs.toArray).run P w = .ok v w) (h : wpList P ops Q rest (a.put o.dst v) w) : wpList P ops Q (o :: rest) a w :=
  wpList_plain hgd fun _ hK => by
    unfold Oper.wp execOp
    simp only [ho, Sem.run_bind, List.map_toArray, hv, hrun, Result.andThen_ok]
    exact hK _ _ h
theorem wpList_slice_eq {P : Program} {w : World} {ops : Array Oper} {rest : List Oper} {o : Oper} {a : Act} {Q : Exit → Act → World → Prop} (hgd : o.guard = none) (t : TypeId) (n : Nat) (parts : List (Nat × Operand)) (ho : o.op = .buildSlice t n parts.toArray)
    (vs : List (Nat × Value)) (hv : (parts.map fun (i, x) => (i, a.eval x)) = vs) (v : Value) (w' : World) (hrun : (Instr.buildSlice t n vs.toArray).run P w = .ok v w') (h : wpList P ops Q rest (a.put o.dst v) w') : wpList P ops Q (o :: rest) a w :=
  wpList_plain hgd fun _ hK => by
    unfold Oper.wp execOp
    simp only [ho, Sem.run_bind, List.map_toArray, hv, hrun, Result.andThen_ok]
    exact hK _ _ h
theorem own_shapeS {w : World} {base e size : Nat} {v : Value} {n : Nat} {xs : List Value} (h : w.ownsRow base e size v n xs) : ∃ sp cap, v = .slice sp n cap := by
  obtain ⟨_, ⟨rfl, h0⟩ | ⟨g, cap, _, rfl, _⟩⟩ := h
  · subst h0; exact ⟨_, _, rfl⟩
  · exact ⟨_, _, rfl⟩
theorem own_baseS {w : World} {base e size : Nat} {v : Value} {n : Nat} {xs : List Value} (h : w.ownsRow base e size v n xs) : ∀ k, v.ownBlock = some k → base ≤ k := by
  intro k hk
  obtain ⟨_, ⟨rfl, _⟩ | ⟨g, cap, _, rfl, hb, _⟩⟩ := h
  · cases hk
  · injection hk with hk; subst hk; exact hb
theorem own_belowS {w w' : World} {base e size : Nat} {v : Value} {n : Nat} {xs : List Value} (h : w.ownsRow base e size v n xs) (hb : Below w.heap.size w w') : w'.ownsRow base e size v n xs := by
  obtain ⟨hl, h1 | ⟨g, cap, cur, rfl, hbg, hg, rest⟩⟩ := h
  · exact ⟨hl, .inl h1⟩
  · exact ⟨hl, .inr ⟨g, cap, cur, rfl, hbg, (hb.block g (Array.getElem?_eq_some_iff.1 hg).1).trans hg, rest⟩⟩
/-- the cells of a list -/
def rowsE (l : List En) : List Value := l.flatMap enL
def rowsC (l : List Cg) : List Value := l.flatMap cgL
theorem rowsE_snoc (l : List En) (x : En) : rowsE (l ++ [x]) = rowsE l ++ enL x := by simp [rowsE]
theorem rowsC_snoc (l : List Cg) (x : Cg) : rowsC (l ++ [x]) = rowsC l ++ cgL x := by simp [rowsC]
/-- a list that the call owns -/
def OwnE (w : World) (base : Nat) (v : Value) (l : List En) : Prop := w.ownsRow base 70 33 v l.length (rowsE l) ∧ ∀ x ∈ l, OkE x
def OwnC (w : World) (base : Nat) (v : Value) (l : List Cg) : Prop := w.ownsRow base 81 65 v l.length (rowsC l) ∧ ∀ x ∈ l, OkC x
theorem flat_at {α : Type} (f : α → List Value) (sz : Nat) : ∀ (l : List α), (∀ x ∈ l, (f x).length = sz) → ∀ i x, l[i]? = some x → ∀ j v, (f x)[j]? = some v → (l.flatMap f)[i * sz + j]? = some v
  | [], _, i, x, hi, _, _, _ => by simp at hi
  | y :: l, h, 0, x, hi, j, v, hv => by
    have e : y = x := by simpa using hi
    subst e
    have hj := (List.getElem?_eq_some_iff.1 hv).1
    rw [List.flatMap_cons, Nat.zero_mul, Nat.zero_add, List.getElem?_append_left hj, hv]
  | y :: l, h, i + 1, x, hi, j, v, hv => by
    have hy := h y (by simp)
    rw [List.flatMap_cons, List.getElem?_append_right (by rw [hy, Nat.add_mul]; omega), hy, show (i + 1) * sz + j - sz = i * sz + j by rw [Nat.add_mul]; omega]
    exact flat_at f sz l (fun z hz => h z (by simp [hz])) i x (by simpa using hi) j v hv
theorem own_range {α : Type} {f : α → List Value} {sz : Nat} {w : World} {base e : Nat} {g n cap : Nat} {l : List α} (h : w.ownsRow base e sz (.slice (some ⟨g, 0, none⟩) n cap) l.length (l.flatMap f)) (hs : ∀ x ∈ l, (f x).length = sz) (hn : l.length = n) :
    g < w.heap.size ∧ n ≤ cap ∧ ∀ i x, l[i]? = some x → w.rangeAt g (0 + i * sz) (f x) := by
  obtain ⟨_, ⟨h1, _⟩ | ⟨g', cap', cur, h1, _, hg, hle, _, hsz, htk⟩⟩ := h
  · cases h1
  · injection h1 with h1 h2 h3
    injection h1 with h1; injection h1 with h1
    subst h1; subst h3
    refine ⟨(Array.getElem?_eq_some_iff.1 hg).1, by omega, fun i x hi j v hv => ?_⟩
    show w.cell? ⟨g, 0 + i * sz + j, none⟩ = some v
    rw [cell_of_row w g _ cur e _ hg, Nat.zero_add]
    have h4 := flat_at f sz l hs i x hi j v hv
    rw [← htk, List.getElem?_take] at h4
    split at h4
    · simpa using h4
    · cases h4
theorem OwnE.ens {w : World} {base : Nat} {sp : Option Addr} {n cap : Nat} {l : List En} (h : OwnE w base (.slice sp n cap) l) (hn : l.length = n) : EnsIn w w.heap.size sp n cap l := by
  refine ⟨hn, h.2, fun h0 => ?_⟩
  have h1 := h.1
  obtain ⟨_, ⟨e, e0⟩ | ⟨g, cap', cur, e, _⟩⟩ := h.1
  · omega
  · injection e with e1 e2 e3
    subst e1
    obtain ⟨hg, hc, hr⟩ := own_range (f := enL) h1 (fun x hx => enL_length (h.2 x hx)) hn
    exact ⟨g, 0, rfl, hg, hc, hr⟩
theorem OwnC.cgs {w : World} {base : Nat} {sp : Option Addr} {n cap : Nat} {l : List Cg} (h : OwnC w base (.slice sp n cap) l) (hn : l.length = n) : CgsIn w w.heap.size sp n cap l := by
  refine ⟨hn, h.2, fun h0 => ?_⟩
  have h1 := h.1
  obtain ⟨_, ⟨e, e0⟩ | ⟨g, cap', cur, e, _⟩⟩ := h.1
  · omega
  · injection e with e1 e2 e3
    subst e1
    obtain ⟨hg, hc, hr⟩ := own_range (f := cgL) h1 (fun x hx => cgL_length (h.2 x hx)) hn
    exact ⟨g, 0, rfl, hg, hc, hr⟩
theorem OwnE.shape {w : World} {base : Nat} {v : Value} {l : List En} (h : OwnE w base v l) : ∃ sp cap, v = .slice sp l.length cap := own_shapeS h.1
theorem OwnC.shape {w : World} {base : Nat} {v : Value} {l : List Cg} (h : OwnC w base v l) : ∃ sp cap, v = .slice sp l.length cap := own_shapeS h.1
theorem OwnE.below {w w' : World} {base : Nat} {v : Value} {l : List En} (h : OwnE w base v l) (hb : Below w.heap.size w w') : OwnE w' base v l := ⟨own_belowS h.1 hb, h.2⟩
theorem OwnC.below {w w' : World} {base : Nat} {v : Value} {l : List Cg} (h : OwnC w base v l) (hb : Below w.heap.size w w') : OwnC w' base v l := ⟨own_belowS h.1 hb, h.2⟩
theorem OwnE.nil (w : World) (base : Nat) : OwnE w base (.slice none 0 0) [] := ⟨World.ownsRow_nil w base _ _, by simp⟩
theorem OwnC.nil (w : World) (base : Nat) : OwnC w base (.slice none 0 0) [] := ⟨World.ownsRow_nil w base _ _, by simp⟩

/-- append(own, x) -/
theorem wpList_append_en {w : World} {ops : Array Oper} {rest : List Oper} {o : Oper} {a : Act} {Q : Exit → Act → World → Prop} (hgd : o.guard = none) (s x : Operand)
    (ho : o.op = .call { callee := .builtin .append, args := #[s, x], argTypes := #[22, 22] }) (base : Nat) (v : Value) (l : List En) (n : Nat) (hn : n = l.length) (hs : a.eval s = v) (hown : OwnE w base v l)
    (g : Nat) (y : En) (hx : a.eval x = .slice (some ⟨g, 0, none⟩) 1 1) (hy : EnB w g y) (hok : OkE y) (hlen : n ≤ 1000000) (hbase : base ≤ w.heap.size)
    (h : ∀ sp cap w', Hid (OwnE w' base (.slice sp (n + 1) cap) (l ++ [y])) → Hid (Below base w w') → Hid (w.grownBy w' v.ownBlock) → wpList Tryd.prog ops Q rest (a.put o.dst (.slice sp (n + 1) cap)) w') : wpList Tryd.prog ops Q (o :: rest) a w := by
  subst hn
  obtain ⟨i0, hi0, hz0, hz1, hz2⟩ := info_parts infoE3
  refine wpList_append_own w hgd s x _ ho base _ i0 _ 33 48 Tryd.underlying22 hi0 hz0 hz1 hz2 rfl (by decide) v l.length _ hs hown.1 ⟨g, 0, none⟩ 1 1 (enL y) hx (by rw [enL_length hok]) ?_ (enL_one y) (by unfold maxLen; omega) (by omega) hbase ?_
  · intro j u hj
    rw [Addr.add_mid]
    exact hy.all j u hj
  · intro v' w' h1 h2 _
    obtain ⟨sp, cap, rfl⟩ := own_shapeS h1
    refine h sp cap w' ⟨by rw [rowsE_snoc, List.length_append]; exact h1, fun z hz => ?_⟩ ((Below.refl base w).grown h2 hbase (own_baseS hown.1)) h2
    rcases List.mem_append.1 hz with hz | hz
    · exact hown.2 z hz
    · rw [List.mem_singleton.1 hz]; exact hok
theorem wpList_append_cg {w : World} {ops : Array Oper} {rest : List Oper} {o : Oper} {a : Act} {Q : Exit → Act → World → Prop} (hgd : o.guard = none) (s x : Operand)
    (ho : o.op = .call { callee := .builtin .append, args := #[s, x], argTypes := #[40, 40] }) (base : Nat) (v : Value) (l : List Cg) (n : Nat) (hn : n = l.length) (hs : a.eval s = v) (hown : OwnC w base v l)
    (g : Nat) (y : Cg) (hx : a.eval x = .slice (some ⟨g, 0, none⟩) 1 1) (hy : CgB w g y) (hok : OkC y) (hlen : n ≤ 1000000) (hbase : base ≤ w.heap.size)
    (h : ∀ sp cap w', Hid (OwnC w' base (.slice sp (n + 1) cap) (l ++ [y])) → Hid (Below base w w') → Hid (w.grownBy w' v.ownBlock) → wpList Tryd.prog ops Q rest (a.put o.dst (.slice sp (n + 1) cap)) w') : wpList Tryd.prog ops Q (o :: rest) a w := by
  subst hn
  obtain ⟨i0, hi0, hz0, hz1, hz2⟩ := info_parts infoC3
  refine wpList_append_own w hgd s x _ ho base _ i0 _ 65 80 Tryd.underlying40 hi0 hz0 hz1 hz2 rfl (by decide) v l.length _ hs hown.1 ⟨g, 0, none⟩ 1 1 (cgL y) hx (by rw [cgL_length hok]) ?_ (cgL_one y) (by unfold maxLen; omega) (by omega) hbase ?_
  · intro j u hj
    rw [Addr.add_mid]
    exact hy.all j u hj
  · intro v' w' h1 h2 _
    obtain ⟨sp, cap, rfl⟩ := own_shapeS h1
    refine h sp cap w' ⟨by rw [rowsC_snoc, List.length_append]; exact h1, fun z hz => ?_⟩ ((Below.refl base w).grown h2 hbase (own_baseS hown.1)) h2
    rcases List.mem_append.1 hz with hz | hz
    · exact hown.2 z hz
    · rw [List.mem_singleton.1 hz]; exact hok
end Go.Proofs.YtkookkhlgllneaaDoor
