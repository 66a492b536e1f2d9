/-
  One-time signatures: laws on rows of numbers, and the walk of the reference's Digits (condition: a digest of 32 bytes).
-/
import Derived.Test.YtkeieacmboidoaaDoorOneM
import Derived.Test.YtkeieacmboidoaaDoorDgA
import Derived.Test.YtkeieacmboidoaaDoorOwnG
namespace Go.Proofs.YtkeieacmboidoaaDoor
open Go.RowKit Go.Proofs.YtkeieacmboidoaaDoor.One

def nv (l : List Int) : List Value := l.map (Value.int .i64)
/-- a row of numbers of the call's own -/
def OwnN (w : World) (base : Nat) (v : Value) (l : List Int) : Prop := w.ownsRow base 3 1 v l.length (nv l)
theorem heap_cellO {w : World} {g j : Nat} {L : List Value} {t : TypeId} {fr : Nat × Nat} {v : Value} (hg : w.heap[g]? = some (.cells L.toArray t fr)) (hv : L[j]? = some v) : w.cell? ⟨g, j, none⟩ = some v := by
  rw [cell_of_row w g j _ t fr hg]; simpa using hv
theorem nv_snoc (l : List Int) (x : Int) : nv (l ++ [x]) = nv l ++ [.int .i64 x] := by simp [nv]
theorem nv_one (l : List Int) : ∀ u ∈ nv l, u.oneCell' = true := by
  intro u hu
  obtain ⟨x, _, rfl⟩ := List.mem_map.1 hu
  rfl
theorem infoI1 : (Tryd.prog.info? 3).map (fun i => (i.zero, i.size, i.bytes)) = some (some (.int .i64 0), 1, 8) := by kernel_rfl
theorem info_partsN {i : Option TypeInfo} {z : Option Value} {s b : Nat} (h : i.map (fun i => (i.zero, i.size, i.bytes)) = some (z, s, b)) : ∃ i0, i = some i0 ∧ i0.zero = z ∧ i0.size = s ∧ i0.bytes = b := by
  cases i with
  | none => cases h
  | some i0 => simp at h; exact ⟨i0, rfl, h.1, h.2.1, h.2.2⟩
theorem OwnN.below {w w' : World} {base : Nat} {v : Value} {l : List Int} (h : OwnN w base v l) (hb : Below w.heap.size w w') : OwnN w' base v l := own_belowG h hb
theorem OwnN.base {w : World} {base base' : Nat} {v : Value} {l : List Int} (h : OwnN w base v l) (hb : base' ≤ base) : OwnN w base' v l := by
  obtain ⟨h0, h | ⟨g, cap, cur, rfl, hg, h1, h2, h3, h4, h5⟩⟩ := h
  · exact ⟨h0, .inl h⟩
  · exact ⟨h0, .inr ⟨g, cap, cur, rfl, by omega, h1, h2, h3, h4, h5⟩⟩
theorem cell_oneN (w : World) (x : Int) : ∀ j u, [Value.int .i64 x][j]? = some u → (w.alloc (.cells #[.int .i64 x] 3)).cell? ((⟨w.heap.size, 0, none⟩ : Addr).add j) = some u := by
  intro j u hj
  rw [Addr.add_mid, Nat.zero_add, cell_of_row _ w.heap.size j _ _ (0, 0) (heap_alloc_new w _)]
  simpa using hj
section
variable {w : World} {ops : Array Oper} {rest : List Oper} {o : Oper} {a : Act} {Q : Exit → Act → World → Prop}
theorem wpList_append_nv (hgd : o.guard = none) (s x : Operand) (ho : o.op = .call { callee := .builtin .append, args := #[s, x], argTypes := #[45, 45] })
    (base : Nat) (v : Value) (l : List Int) (hs : a.eval s = v) (hown : OwnN w base v l) (y : Int) (hx : a.eval x = .slice (some ⟨w.heap.size, 0, none⟩) 1 1)
    (hlen : l.length ≤ 1000000000) (hbase : base ≤ w.heap.size)
    (h : ∀ v' w', Hid (OwnN w' base v' (l ++ [y])) → Hid (Below base w w') → wpList Tryd.prog ops Q rest (a.put o.dst v') w') : wpList Tryd.prog ops Q (o :: rest) a (w.alloc (.cells #[.int .i64 y] 3)) := by
  obtain ⟨i0, hi0, hz0, hz1, hz2⟩ := info_partsN infoI1
  refine wpList_append_own _ hgd s x _ ho base _ i0 _ 1 8 Tryd.underlying45 hi0 hz0 hz1 hz2 rfl (by decide) v l.length _ hs (World.ownsRow.alloc hown _) ⟨w.heap.size, 0, none⟩ 1 1 [.int .i64 y] hx rfl (cell_oneN w y) (by intro u hu; simp at hu; subst hu; rfl) (by unfold maxLen; omega) (by omega) (by simp; omega) ?_
  intro v' w' h1 h2 _
  refine h v' w' ?_ ?_
  · show w'.ownsRow _ _ _ _ _ _
    rw [nv_snoc, List.length_append]; exact h1
  · exact ((Below.refl base w).alloc hbase _).grown h2 (by simp; omega) (own_baseG hown)
end
theorem and3_u8 (x : Int) (h : 0 ≤ x ∧ x ≤ 255) : bits .and .u8 x 3 = x % 4 := by
  obtain ⟨n, rfl⟩ : ∃ n : Nat, x = n := ⟨x.toNat, by omega⟩
  have hn : n < 256 := by omega
  exact (by decide +kernel : ∀ n : Fin 256, bits .and .u8 ((n.val : Nat) : Int) 3 = ((n.val : Nat) : Int) % 4) ⟨n, hn⟩
theorem and3_i64 (x : Int) (h : 0 ≤ x ∧ x ≤ 255) : bits .and .i64 x 3 = x % 4 := by
  obtain ⟨n, rfl⟩ : ∃ n : Nat, x = n := ⟨x.toNat, by omega⟩
  have hn : n < 256 := by omega
  exact (by decide +kernel : ∀ n : Fin 256, bits .and .i64 ((n.val : Nat) : Int) 3 = ((n.val : Nat) : Int) % 4) ⟨n, hn⟩
theorem flat_snoc (d : List Int) (k : Nat) (h : k < d.length) : (d.take (k + 1)).flatMap digB = (d.take k).flatMap digB ++ digB (d.getD k 0) := by
  rw [List.take_succ_eq_append_getElem h, List.flatMap_append, List.flatMap_cons, List.flatMap_nil, List.append_nil, List.getD_eq_getElem?_getD, List.getElem?_eq_getElem h]; rfl
/-- the j-th digit of a byte -/
def dgt (x : Int) (j : Nat) : Int := (digB x).getD j 0
theorem digB_snoc (x : Int) (j : Nat) (h : j < 4) : (digB x).take (j + 1) = (digB x).take j ++ [dgt x j] := by
  rw [List.take_succ_eq_append_getElem (by rw [digB_length]; exact h)]; unfold dgt
  rw [List.getD_eq_getElem?_getD, List.getElem?_eq_getElem (by rw [digB_length]; exact h)]; rfl
theorem lack_snoc (l : List Int) (x : Int) : lack (l ++ [x]) = lack l + 3 - x := by rw [lack_append]; simp [lack]; omega
end Go.Proofs.YtkeieacmboidoaaDoor
