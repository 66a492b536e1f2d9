/-
  The walk of pattern.Literal: for every string.
-/
import Derived.Test.YtmafefdchglpbaaDoorPatI
import Derived.Lib.AppendStr
import Derived.Lib.UnsafeStr
import Derived.Lib.BufferWrite
import Derived.Laws.IdiomStrings
namespace Go.Proofs.YtmafefdchglpbaaDoor
open Go.RowKit

/-- the text of a literal -/
def spB (c : UInt8) : Bool := c == 92 || c == 42 || c == 63
def lit1 (c : UInt8) : List UInt8 := if spB c = true then [92, c] else [c]
def litL (l : List UInt8) : List UInt8 := l.flatMap lit1
def litB (s : ByteArray) : ByteArray := if pathB s = true then ⟨(litL s.data.toList).toArray⟩ else ⟨#[]⟩
theorem litL_succ (s : ByteArray) (k : Nat) (h : k < s.size) : litL (s.data.toList.take (k + 1)) = litL (s.data.toList.take k) ++ lit1 s[k] := by
  unfold litL
  rw [List.take_succ_eq_append_getElem (by simpa using h), List.flatMap_append]; simp; rfl
theorem litL_le (l : List UInt8) : (litL l).length ≤ 2 * l.length := by
  induction l with
  | nil => simp [litL]
  | cons a t ih =>
    unfold litL at ih ⊢
    rw [List.flatMap_cons, List.length_append]
    have : (lit1 a).length ≤ 2 := by unfold lit1; split <;> simp
    simp only [List.length_cons]; omega
theorem sp_geF : ∀ c : Fin 256, decide (Lib.indexByte [92, 42, 63] (UInt8.ofNat c.val) ≥ 0) = spB (UInt8.ofNat c.val) := by decide +kernel
theorem sp_ge (c : UInt8) : decide (Lib.indexByte [92, 42, 63] c ≥ 0) = spB c := by
  have h := sp_geF ⟨c.toNat, UInt8.toNat_lt _⟩
  simpa using h
theorem Tryd.infoBy : (Tryd.prog.info? 5).map (fun i => (i.zero, i.size, i.bytes)) = some (some (.int .u8 0), 1, 1) := by kernel_rfl
/-- append(own, one byte) -/
theorem wpList_append_b1 {P : Program} {w : World} {ops : Array Oper} {rest : List Oper} {o : Oper} {a : Act} {Q : Exit → Act → World → Prop} (hgd : o.guard = none) (s x : Operand) (t e : TypeId)
    (ho : o.op = .call { callee := .builtin .append, args := #[s, x], argTypes := #[t, t] }) (ht : P.underlying t = some (.slice e)) (hi : (P.info? e).map (fun i => (i.zero, i.size, i.bytes)) = some (some (.int .u8 0), 1, 1))
    (base : Nat) (v : Value) (xs : List UInt8) (n : Nat) (hs : a.eval s = v) (hn : n = xs.length) (hown : w.ownsRow base e 1 v n (Lib.byteCells xs))
    (g : Nat) (y : UInt8) (hx : a.eval x = .slice (some ⟨g, 0, none⟩) 1 1) (hc : w.cell? ⟨g, 0, none⟩ = some (.int .u8 (y.toNat : Int)))
    (hlen : n ≤ 100000000) (hbase : base ≤ w.heap.size)
    (h : ∀ sp cap w', Hid (w'.ownsRow base e 1 (.slice sp (n + 1) cap) (n + 1) (Lib.byteCells (xs ++ [y]))) → w.grownBy w' v.ownBlock → wpList P ops Q rest (a.put o.dst (.slice sp (n + 1) cap)) w') : wpList P ops Q (o :: rest) a w := by
  obtain ⟨i0, hi0, hz0, hz1, hz2⟩ := info_parts hi
  refine wpList_append_own w hgd s x t ho base e i0 (.int .u8 0) 1 1 ht hi0 hz0 hz1 hz2 rfl (by decide) v n _ hs hown ⟨g, 0, none⟩ 1 1 [.int .u8 (y.toNat : Int)] hx rfl ?_ (by intro u hu; simp at hu; subst hu; rfl) (by unfold maxLen; omega) (by omega) hbase ?_
  · intro j u hj
    match j, hj with
    | 0, hj => simp at hj; subst hj; rw [Addr.add_mid]; exact hc
  · intro v' w' h1 h2 _
    obtain ⟨sp, cap, rfl⟩ := own_shapeP h1
    exact h sp cap w' (by show World.ownsRow _ _ _ _ _ _ _; rw [Lib.byteCells_append]; exact h1) h2
set_option maxRecDepth 100000 in
theorem run_string_ownP {w : World} {base e : Nat} {sp : Option Addr} {n cap : Nat} {l : List UInt8} (h : w.ownsRow base e 1 (.slice sp n cap) n (Lib.byteCells l)) (hn : n = l.length) :
    (convert 34 9 (.slice sp n cap)).run Tryd.prog w = .ok (.string ⟨l.toArray⟩) w := by
  subst hn
  obtain ⟨_, ⟨e, h0⟩ | ⟨g, cap', cur, e, hb, hg, hle, _, hsz, htk⟩⟩ := h
  · have : l = [] := List.eq_nil_of_length_eq_zero h0
    subst this
    injection e with e1 e2 e3
    subst e1 e3
    rw [List.length_nil, run_convert_bytes_string w 34 9 5 none 0 0 Tryd.underlying34 Tryd.underlying5 Tryd.underlying9]
    rfl
  · rw [e]
    refine run_convert_bytes_back w 34 9 5 _ cap' l Tryd.underlying34 Tryd.underlying5 Tryd.underlying9 (fun j hj => ?_)
    rw [Addr.add_mid, Nat.zero_add, cell_of_row w g j cur _ _ hg]
    have h1 : (cur.toList.take (l.length * 1))[j]? = some (.int .u8 (l[j].toNat : Int)) := by rw [htk]; simp [Lib.byteCells, List.getElem?_eq_getElem hj]
    rw [List.getElem?_take, if_pos (by omega)] at h1
    simpa using h1
end Go.Proofs.YtmafefdchglpbaaDoor
