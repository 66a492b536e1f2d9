/-
  Plain mathematics: the steps of reading a pattern, and laws of memory for a row of parts (no program is named here but for its name space).
-/
import Derived.Test.YtmafefdchglpbaaDoorPatD
import Derived.OwnWalk
import Derived.Laws.Entries
import Derived.Deep.MidRow
namespace Go.Proofs.YtmafefdchglpbaaDoor
open Go.RowKit

theorem rdP_cons_esc_end : rdP [92] = none := by simp [rdP]
theorem rdP_esc (y : UInt8) (r : List UInt8) : rdP (92 :: y :: r) = (rdP r).map (((0, (y.toNat : Int)) : Pt) :: ·) := by simp [rdP]
theorem rdP_ss (r : List UInt8) : rdP (42 :: 42 :: r) = (rdP r).map (((3, 120) : Pt) :: ·) := by simp [rdP]
theorem rdP_s (r : List UInt8) (h : r.head? ≠ some 42) : rdP (42 :: r) = (rdP r).map (((2, 120) : Pt) :: ·) := by
  cases r with
  | nil => simp [rdP]
  | cons y r' =>
    have hy : y ≠ 42 := fun e => h (by rw [e]; rfl)
    rw [rdP]; simp [hy]
theorem rdP_q (r : List UInt8) : rdP (63 :: r) = (rdP r).map (((1, 120) : Pt) :: ·) := by rw [rdP.eq_def]; simp
theorem rdP_c (x : UInt8) (r : List UInt8) (h1 : x ≠ 92) (h2 : x ≠ 42) (h3 : x ≠ 63) : rdP (x :: r) = (rdP r).map (((0, (x.toNat : Int)) : Pt) :: ·) := by rw [rdP.eq_def]; simp [h1, h2, h3]
theorem rdP_go {l : List UInt8} {k m : Nat} {done : List Pt} {q : Pt} (h : rdP l = (rdP (l.drop k)).map (done ++ ·)) (hs : rdP (l.drop k) = (rdP (l.drop (k + m))).map (q :: ·)) : rdP l = (rdP (l.drop (k + m))).map ((done ++ [q]) ++ ·) := by
  rw [h, hs, Option.map_map]
  congr 1
  funext x
  simp
theorem rdP_kinds : ∀ (n : Nat) (l : List UInt8), l.length ≤ n → ∀ ps, rdP l = some ps → (∀ q ∈ ps, q.1 ≤ 3) ∧ ps.length ≤ l.length
  | _, [], _, ps, h => by
    have : ps = [] := by simpa [rdP] using h.symm
    subst this; exact ⟨fun q hq => (by cases hq), Nat.le_refl _⟩
  | 0, x :: r, hn, _, _ => by simp at hn
  | n + 1, x :: r, hn, ps, h => by
    have key : ∀ (q : Pt) (r' : List UInt8), q.1 ≤ 3 → r'.length ≤ r.length → (rdP r').map (q :: ·) = some ps → (∀ q ∈ ps, q.1 ≤ 3) ∧ ps.length ≤ (x :: r).length := by
      intro q r' hq hr he
      cases hp : rdP r' with
      | none => rw [hp] at he; simp at he
      | some ps' =>
        rw [hp] at he
        have e : ps = q :: ps' := by simpa using he.symm
        obtain ⟨i1, i2⟩ := rdP_kinds n r' (by simp at hn; omega) ps' hp
        subst e
        exact ⟨fun u hu => (List.mem_cons.1 hu).elim (fun e => e ▸ hq) (i1 u), by simp; omega⟩
    by_cases h1 : x = 92
    · subst h1
      cases r with
      | nil => rw [rdP_cons_esc_end] at h; cases h
      | cons y r' => rw [rdP_esc] at h; exact key _ r' (by simp) (by simp) h
    · by_cases h2 : x = 42
      · subst h2
        by_cases h3 : r.head? = some 42
        · cases r with
          | nil => simp at h3
          | cons y r' =>
            obtain rfl : y = 42 := by simpa using h3
            rw [rdP_ss] at h; exact key _ r' (by simp) (by simp) h
        · rw [rdP_s r h3] at h; exact key _ r (by simp) (Nat.le_refl _) h
      · by_cases h3 : x = 63
        · subst h3; rw [rdP_q] at h; exact key _ r (by simp) (Nat.le_refl _) h
        · rw [rdP_c x r h1 h2 h3] at h; exact key _ r (by simp) (Nat.le_refl _) h
theorem patL_kinds {l : List UInt8} {ps : List Pt} (h : patL l = some ps) : (∀ q ∈ ps, q.1 ≤ 3) ∧ ps.length ≤ 200 ∧ rdP l = some ps := by
  unfold patL at h
  by_cases hc : l = [] ∨ 200 < l.length ∨ ¬ Lib.indexByte l 0 < 0
  · rw [if_pos hc] at h; cases h
  · rw [if_neg hc] at h
    obtain ⟨h1, h2⟩ := rdP_kinds l.length l (Nat.le_refl _) ps h
    exact ⟨h1, by omega, h⟩
theorem patL_of {l : List UInt8} (h1 : l ≠ []) (h2 : l.length ≤ 200) (h3 : Lib.indexByte l 0 < 0) : patL l = rdP l := by
  unfold patL
  rw [if_neg (by simp [h1, h3]; omega)]

/-- the cells of parts -/
def ptC (ps : List Pt) : List Value := ps.flatMap fun p => [.int .i64 (p.1 : Int), .int .u8 p.2]
theorem ptC_snoc (ps : List Pt) (q : Pt) : ptC (ps ++ [q]) = ptC ps ++ [.int .i64 (q.1 : Int), .int .u8 q.2] := by unfold ptC; rw [List.flatMap_append]; rfl
theorem ptC_length (ps : List Pt) : (ptC ps).length = ps.length * 2 := by
  induction ps with
  | nil => rfl
  | cons p r ih => unfold ptC at ih ⊢; rw [List.flatMap_cons, List.length_append, ih]; simp; omega
theorem ptC_at (ps : List Pt) (i : Nat) (h : i < ps.length) : (ptC ps)[2 * i]? = some (.int .i64 ((ps.getD i (0, 0)).1 : Int)) ∧ (ptC ps)[2 * i + 1]? = some (.int .u8 (ps.getD i (0, 0)).2) := by
  induction ps generalizing i with
  | nil => simp at h
  | cons p r ih =>
    match i with
    | 0 => exact ⟨rfl, rfl⟩
    | j + 1 =>
      have := ih j (by simpa using h)
      rw [show 2 * (j + 1) = 2 * j + 1 + 1 by omega]
      exact this
theorem own_shapeP {w : World} {base e size : Nat} {v : Value} {n : Nat} {xs : List Value} (h : w.ownsRow base e size v n xs) : ∃ sp cap, v = .slice sp n cap := by
  obtain ⟨_, ⟨rfl, rfl⟩ | ⟨g, cap, cur, rfl, _⟩⟩ := h
  · exact ⟨none, 0, rfl⟩
  · exact ⟨_, cap, rfl⟩
theorem own_baseP {w : World} {base e size : Nat} {v : Value} {n : Nat} {xs : List Value} (h : w.ownsRow base e size v n xs) : ∀ k, v.ownBlock = some k → base ≤ k := fun k hk => (h.lt k hk).1
theorem Tryd.infoPt : (Tryd.prog.info? 93).map (fun i => (i.zero, i.size, i.bytes)) = some (some (.agg #[.int .i64 0, .int .u8 0]), 2, 16) := by kernel_rfl
/-- append(own, one part) -/
theorem wpList_append_pt {P : Program} {w : World} {ops : Array Oper} {rest : List Oper} {o : Oper} {a : Act} {Q : Exit → Act → World → Prop} (hgd : o.guard = none) (s x : Operand) (t e : TypeId)
    (ho : o.op = .call { callee := .builtin .append, args := #[s, x], argTypes := #[t, t] }) (ht : P.underlying t = some (.slice e)) (hi : (P.info? e).map (fun i => (i.zero, i.size, i.bytes)) = some (some (.agg #[.int .i64 0, .int .u8 0]), 2, 16))
    (base : Nat) (v : Value) (ps : List Pt) (n : Nat) (hs : a.eval s = v) (hn : n = ps.length) (hown : w.ownsRow base e 2 v n (ptC ps))
    (g : Nat) (q : Pt) (hx : a.eval x = .slice (some ⟨g, 0, none⟩) 1 1) (hc0 : w.cell? ⟨g, 0, none⟩ = some (.int .i64 (q.1 : Int))) (hc1 : w.cell? ⟨g, 1, none⟩ = some (.int .u8 q.2))
    (hlen : n ≤ 1000000) (hbase : base ≤ w.heap.size)
    (h : ∀ sp cap w', Hid (w'.ownsRow base e 2 (.slice sp (n + 1) cap) (n + 1) (ptC (ps ++ [q]))) → w.grownBy w' v.ownBlock → wpList P ops Q rest (a.put o.dst (.slice sp (n + 1) cap)) w') : wpList P ops Q (o :: rest) a w := by
  obtain ⟨i0, hi0, hz0, hz1, hz2⟩ := info_parts hi
  refine wpList_append_own w hgd s x t ho base e i0 _ 2 16 ht hi0 hz0 hz1 hz2 rfl (by decide) v n _ hs hown ⟨g, 0, none⟩ 1 1 [.int .i64 (q.1 : Int), .int .u8 q.2] hx rfl ?_ (by intro u hu; simp at hu; rcases hu with rfl | rfl <;> rfl) (by unfold maxLen; omega) (by omega) hbase ?_
  · intro j u hj
    match j, hj with
    | 0, hj => simp at hj; subst hj; rw [Addr.add_mid]; exact hc0
    | 1, hj => simp at hj; subst hj; rw [Addr.add_mid]; exact hc1
  · intro v' w' h1 h2 _
    obtain ⟨sp, cap, rfl⟩ := own_shapeP h1
    exact h sp cap w' (by show World.ownsRow _ _ _ _ _ _ _; rw [ptC_snoc]; exact h1) h2
end Go.Proofs.YtmafefdchglpbaaDoor
