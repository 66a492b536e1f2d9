/-
  The walks of strings.IndexByte, strings.Index, strings.Count, strings.genSplit and strings.Split at a separator of one byte (condition: a string of at most 10000000 bytes).
-/
import Derived.Test.YtbfgkbcpkldofaaDoorChecked
import Derived.WalkKit
import Derived.Lib.SplitLaws
import Derived.Lib.Bytealg
import Derived.Lib.IndexBytes
import Derived.Below
import Derived.Lib.Hide
import Derived.Deep.OwnRows
import Derived.Deep.LoopGhost
import Derived.IntWalk
import Derived.Test.YtbfgkbcpkldofaaDoorH0
import Derived.OwnWalk
import Derived.Laws.Entries
import Derived.Deep.MidRow
import Derived.Laws.BytesString
namespace Go.Proofs.YtbfgkbcpkldofaaDoor
open Go.RowKit

set_option maxHeartbeats 400000 in
set_option maxRecDepth 100000 in
theorem indexByteLite_anyS (s : ByteArray) (c : Int) (w : World) :
    Calls Tryd.prog 123 #[.string s, .int .u8 c] w fun e w' => e = .returned (.int .i64 (Lib.indexByte s.data.toList c.toNat.toUInt8)) ∧ w = w' := by
  go_enter Tryd.func123, Tryd.ntmps123
  go_wp2
  rw [run_callFunc_extern Tryd.func134 (by kernel_rfl) (by kernel_rfl) (by kernel_rfl) (e := Extern.BytealgIndexByte.indexByte) (by kernel_rfl), Lib.run_indexByteString]
  simp only [Result.andThen]
  rw [Oper.upon_value]
  go_wp2
  go_ret
  exact ⟨rfl, rfl⟩
/-- a string of one byte -/
def oneB (c : UInt8) : ByteArray := ⟨#[c]⟩
theorem oneB_size (c : UInt8) : (oneB c).size = 1 := rfl
theorem oneB_at (c : UInt8) (h : 0 < (oneB c).size) : (oneB c)[0] = c := rfl
theorem indexB_oneS (s : ByteArray) (c : UInt8) : Lib.indexB s (oneB c) = Lib.indexByte s.data.toList c := by
  show Lib.index s.data.toList [c] = _
  exact Lib.index_one _ _
theorem byte_backS (c : UInt8) : ((c.toNat : Int)).toNat.toUInt8 = c := by simp
theorem countB_oneS (s : ByteArray) (c : UInt8) : Lib.countB s (oneB c) = Lib.countByte s.data.toList c := by
  show Lib.count s.data.toList [c] = _
  exact Lib.count_one _ _
theorem infoStrS : (Tryd.prog.info? 9).map (fun i => (i.zero, i.size, i.bytes)) = some (some (.string ByteArray.empty), 1, 16) := by kernel_rfl
theorem makeS (n : Nat) (h : n ≤ 100000000) (w : World) : (Instr.makeSlice 43 (.int .i64 ((n : Int) + 1)) (.int .i64 ((n : Int) + 1))).run Tryd.prog w = .ok (.slice (some ⟨w.heap.size, 0, none⟩) (n + 1) (n + 1)) (w.alloc (.cells (Lib.cellsOf [] (n + 1)) 9)) := by
  have h1 := run_make_row' (P := Tryd.prog) 43 9 (.string ByteArray.empty) 16 Tryd.underlying43 infoStrS rfl .i64 .i64 (n + 1) (by omega) (by omega) w
  rw [← Lib.cellsOf_nil] at h1
  exact h1
theorem splitB_missS (s : ByteArray) (c : UInt8) (h : Lib.indexB s (oneB c) = -1) (m : Nat) : Lib.splitB (oneB c) 0 m s = [s] := Lib.splitB_miss _ _ _ _ h
end Go.Proofs.YtbfgkbcpkldofaaDoor

namespace Go.Proofs.YtbfgkbcpkldofaaDoor
open Go.RowKit

def spB : ByteArray := oneB 32
/-- the pieces of a string between spaces -/
def pcs (c : UInt8) (s : ByteArray) : List ByteArray := Lib.splitB (oneB c) 0 (Lib.countB s (oneB c)) s
theorem pcs_len (c : UInt8) (s : ByteArray) : (pcs c s).length = Lib.countB s (oneB c) + 1 := Lib.splitB_all (oneB c) (Nat.le_refl _) 0 _ s rfl
theorem own_shapeD {w : World} {base e size : Nat} {v : Value} {n : Nat} {xs : List Value} (h : w.ownsRow base e size v n xs) : ∃ sp cap, v = .slice sp n cap := by
  obtain ⟨_, ⟨rfl, rfl⟩ | ⟨g, cap, cur, rfl, _⟩⟩ := h
  · exact ⟨none, 0, rfl⟩
  · exact ⟨_, cap, rfl⟩
theorem own_baseD {w : World} {base e size : Nat} {v : Value} {n : Nat} {xs : List Value} (h : w.ownsRow base e size v n xs) : ∀ k, v.ownBlock = some k → base ≤ k := fun k hk => (h.lt k hk).1
theorem own_belowD {w w' : World} {B e size n : Nat} {v : Value} {xs : List Value} (h : w.ownsRow B e size v n xs) (hb : Below w.heap.size w w') : w'.ownsRow B e size v n xs := by
  obtain ⟨h0, h1 | ⟨g, cap, cur, h1, h2, h3, h4⟩⟩ := h
  · exact ⟨h0, .inl h1⟩
  · exact ⟨h0, .inr ⟨g, cap, cur, h1, h2, (hb.block g (Array.getElem?_eq_some_iff.1 h3).1).trans h3, h4⟩⟩
/-- append(own, one string) -/
theorem wpList_append_str {P : Program} {w : World} {ops : Array Oper} {rest : List Oper} {o : Oper} {a : Act} {Q : Exit → Act → World → Prop} (hgd : o.guard = none) (s x : Operand) (t e : TypeId)
    (ho : o.op = .call { callee := .builtin .append, args := #[s, x], argTypes := #[t, t] }) (ht : P.underlying t = some (.slice e)) (hi : (P.info? e).map (fun i => (i.zero, i.size, i.bytes)) = some (some (.string ByteArray.empty), 1, 16))
    (base : Nat) (v : Value) (xs : List ByteArray) (n : Nat) (hs : a.eval s = v) (hn : n = xs.length) (hown : w.ownsRow base e 1 v n (xs.map Value.string))
    (g : Nat) (y : ByteArray) (hx : a.eval x = .slice (some ⟨g, 0, none⟩) 1 1) (hc : w.cell? ⟨g, 0, none⟩ = some (.string y))
    (hlen : n ≤ 100000000) (hbase : base ≤ w.heap.size)
    (h : ∀ sp cap w', Hid (w'.ownsRow base e 1 (.slice sp (n + 1) cap) (n + 1) ((xs ++ [y]).map Value.string)) → w.grownBy w' v.ownBlock → wpList P ops Q rest (a.put o.dst (.slice sp (n + 1) cap)) w') : wpList P ops Q (o :: rest) a w := by
  obtain ⟨i0, hi0, hz0, hz1, hz2⟩ := info_parts hi
  refine wpList_append_own w hgd s x t ho base e i0 _ 1 16 ht hi0 hz0 hz1 hz2 rfl (by decide) v n _ hs hown ⟨g, 0, none⟩ 1 1 [.string y] hx rfl ?_ (by intro u hu; simp at hu; subst hu; rfl) (by unfold maxLen; omega) (by omega) hbase ?_
  · intro j u hj
    have hj0 : j = 0 := by have := (List.getElem?_eq_some_iff.1 hj).1; simp at this; omega
    subst hj0
    simp at hj; subst hj; rw [Addr.add_mid]; exact hc
  · intro v' w' h1 h2 _
    obtain ⟨sp, cap, rfl⟩ := own_shapeD h1
    exact h sp cap w' (by show World.ownsRow _ _ _ _ _ _ _; rw [List.map_append]; exact h1) h2
/-- what a word's text, what texts stand for -/
def unwS (s : ByteArray) : Option ByteArray := (unword s.data.toList).map fun m => ⟨m.toArray⟩
def unwsL : List ByteArray → Option (List ByteArray)
  | [] => some []
  | s :: r => match unwS s with
    | none => none
    | some x => (unwsL r).map (x :: ·)
theorem unwsL_none {s : ByteArray} {r : List ByteArray} (h : unwS s = none) : unwsL (s :: r) = none := by rw [unwsL, h]
theorem unwsL_some {s x : ByteArray} {r : List ByteArray} (h : unwS s = some x) : unwsL (s :: r) = (unwsL r).map (x :: ·) := by rw [unwsL, h]
/-- what convert leaves -/
def ConvRes (w : World) (r : Option (List ByteArray)) (e : Ending) (w' : World) : Prop := match r with
  | none => e = .returned (.tuple #[.slice none 0 0, .bool false]) ∧ Below w.heap.size w w'
  | some xs => ∃ sp cap, e = .returned (.tuple #[.slice sp xs.length cap, .bool true]) ∧ w'.ownsRow w.heap.size 9 1 (.slice sp xs.length cap) xs.length (xs.map Value.string) ∧ Below w.heap.size w w'
theorem convRes_none {w : World} {r : Option (List ByteArray)} {e : Ending} {w' : World} (h : r = none) (he : e = .returned (.tuple #[.slice none 0 0, .bool false])) (hb : Below w.heap.size w w') : ConvRes w r e w' := by unfold ConvRes; rw [h]; exact ⟨he, hb⟩
end Go.Proofs.YtbfgkbcpkldofaaDoor

namespace Go.Proofs.YtbfgkbcpkldofaaDoor
open Go.RowKit

theorem below_allocD (w : World) (o : Obj) : Below w.heap.size w (w.alloc o) := (Below.refl _ _).alloc (Nat.le_refl _) _
theorem own_monoD {w : World} {base base' : Nat} {e : TypeId} {size : Nat} {v : Value} {n : Nat} {xs : List Value} (h : w.ownsRow base e size v n xs) (hb : base' ≤ base) : w.ownsRow base' e size v n xs :=
  ⟨h.1, h.2.imp id fun ⟨g, cap, cur, h1, h2, h3⟩ => ⟨g, cap, cur, h1, Nat.le_trans hb h2, h3⟩⟩
theorem splitB_size (sep : ByteArray) : ∀ (k : Nat) (s : ByteArray), ∀ x ∈ Lib.splitB sep 0 k s, x.size ≤ s.size
  | 0, s, x, hx => by rw [Lib.splitB_zero, List.mem_singleton] at hx; subst hx; exact Nat.le_refl _
  | k + 1, s, x, hx => by
    unfold Lib.splitB at hx
    split at hx
    · rw [List.mem_singleton] at hx; subst hx; exact Nat.le_refl _
    · rcases List.mem_cons.1 hx with h | h
      · subst h; rw [ByteArray.size_extract]; omega
      · have := splitB_size sep k _ x h
        rw [ByteArray.size_extract] at this
        omega
theorem pcs_size (c : UInt8) (s : ByteArray) : ∀ x ∈ pcs c s, x.size ≤ s.size := splitB_size _ _ _
theorem pcs_cnt (c : UInt8) (s : ByteArray) : Lib.countB s (oneB c) ≤ s.size := Lib.countB_le (oneB c) (Nat.le_refl _) s.size s (Nat.le_refl _)
end Go.Proofs.YtbfgkbcpkldofaaDoor

namespace Go.Proofs.YtbfgkbcpkldofaaDoor
open Go.RowKit

theorem own_apart {w : World} {b1 b2 e1 e2 s1 s2 : Nat} {v1 v2 : Value} {n1 n2 : Nat} {x1 x2 : List Value} (h1 : w.ownsRow b1 e1 s1 v1 n1 x1) (h2 : w.ownsRow b2 e2 s2 v2 n2 x2) (hne : e1 ≠ e2) : v1.ownBlock = none ∨ v1.ownBlock ≠ v2.ownBlock := by
  obtain ⟨_, ⟨rfl, _⟩ | ⟨g1, c1, u1, rfl, _, g1h, _⟩⟩ := h1
  · exact .inl rfl
  · obtain ⟨_, ⟨rfl, _⟩ | ⟨g2, c2, u2, rfl, _, g2h, _⟩⟩ := h2
    · exact .inr (by simp [Value.ownBlock])
    · refine .inr (fun e => hne ?_)
      have e' : g1 = g2 := by simpa [Value.ownBlock] using e
      subst e'
      rw [g1h] at g2h
      injection g2h with g2h
      injection g2h
theorem infoLn : (Tryd.prog.info? 43).map (fun i => (i.zero, i.size, i.bytes)) = some (some (.slice none 0 0), 1, 24) := by kernel_rfl
/-- append(own, one slice) -/
theorem wpList_append_ln {P : Program} {w : World} {ops : Array Oper} {rest : List Oper} {o : Oper} {a : Act} {Q : Exit → Act → World → Prop} (hgd : o.guard = none) (s x : Operand) (t e : TypeId)
    (ho : o.op = .call { callee := .builtin .append, args := #[s, x], argTypes := #[t, t] }) (ht : P.underlying t = some (.slice e)) (hi : (P.info? e).map (fun i => (i.zero, i.size, i.bytes)) = some (some (.slice none 0 0), 1, 24))
    (base : Nat) (v : Value) (xs : List Ln) (n : Nat) (hs : a.eval s = v) (hn : n = xs.length) (hown : w.ownsRow base e 1 v n (xs.map Ln.val))
    (g : Nat) (y : Ln) (hx : a.eval x = .slice (some ⟨g, 0, none⟩) 1 1) (hc : w.cell? ⟨g, 0, none⟩ = some y.val)
    (hlen : n ≤ 100000000) (hbase : base ≤ w.heap.size)
    (h : ∀ sp cap w', Hid (w'.ownsRow base e 1 (.slice sp (n + 1) cap) (n + 1) ((xs ++ [y]).map Ln.val)) → w.grownBy w' v.ownBlock → wpList P ops Q rest (a.put o.dst (.slice sp (n + 1) cap)) w') : wpList P ops Q (o :: rest) a w := by
  obtain ⟨i0, hi0, hz0, hz1, hz2⟩ := info_parts hi
  refine wpList_append_own w hgd s x t ho base e i0 _ 1 24 ht hi0 hz0 hz1 hz2 rfl (by decide) v n _ hs hown ⟨g, 0, none⟩ 1 1 [y.val] hx rfl ?_ (by intro u hu; simp at hu; subst hu; rfl) (by unfold maxLen; omega) (by omega) hbase ?_
  · intro j u hj
    have hj0 : j = 0 := by have := (List.getElem?_eq_some_iff.1 hj).1; simp at this; omega
    subst hj0
    simp at hj; subst hj; rw [Addr.add_mid]; exact hc
  · intro v' w' h1 h2 _
    obtain ⟨sp, cap, rfl⟩ := own_shapeD h1
    exact h sp cap w' (by show World.ownsRow _ _ _ _ _ _ _; rw [List.map_append]; exact h1) h2
/-- a line that the call owns -/
def LnOwn (w : World) (base : Nat) (q : Ln) : Prop := w.ownsRow base 9 1 (.slice q.sp q.n q.cap) q.n (q.l.map Value.string)
/-- what rows stand for -/
def unlL : List ByteArray → Option (List (List ByteArray))
  | [] => some []
  | s :: r => match unwsL (pcs 32 s) with
    | none => none
    | some x => (unlL r).map (x :: ·)
theorem unlL_none {s : ByteArray} {r : List ByteArray} (h : unwsL (pcs 32 s) = none) : unlL (s :: r) = none := by rw [unlL, h]
theorem unlL_some {s : ByteArray} {x : List ByteArray} {r : List ByteArray} (h : unwsL (pcs 32 s) = some x) : unlL (s :: r) = (unlL r).map (x :: ·) := by rw [unlL, h]
/-- what convert leaves -/
def ConvL (w : World) (r : Option (List (List ByteArray))) (e : Ending) (w' : World) : Prop := match r with
  | none => e = .returned (.tuple #[.slice none 0 0, .bool false]) ∧ Below w.heap.size w w'
  | some L => ∃ (sp : Option Addr) (cap : Nat) (ls : List Ln), wordsOf ls = L ∧ e = .returned (.tuple #[.slice sp ls.length cap, .bool true]) ∧ w'.ownsRow w.heap.size 43 1 (.slice sp ls.length cap) ls.length (ls.map Ln.val) ∧ (∀ q ∈ ls, LnOwn w' w.heap.size q) ∧ Below w.heap.size w w'
theorem convL_none {w : World} {r : Option (List (List ByteArray))} {e : Ending} {w' : World} (h : r = none) (he : e = .returned (.tuple #[.slice none 0 0, .bool false])) (hb : Below w.heap.size w w') : ConvL w r e w' := by unfold ConvL; rw [h]; exact ⟨he, hb⟩
end Go.Proofs.YtbfgkbcpkldofaaDoor

namespace Go.Proofs.YtbfgkbcpkldofaaDoor
open Go.RowKit

theorem one_list (x : UInt8) : (⟨#[x]⟩ : ByteArray).toList = [x] := by rw [Lib.toList_data]
theorem last_byte (s : ByteArray) (h : 0 < s.size) : (s.extract (s.size - 1) s.size).toList = [s[s.size - 1]] := by
  rw [Lib.toList_data, ByteArray.data_extract, Array.toList_extract, List.extract_eq_take_drop, show s.size - (s.size - 1) = 1 by omega]
  rw [List.drop_eq_getElem_cons (by simpa using (show s.size - 1 < s.size by omega))]
  rfl
/-- whether a string ends a line -/
def endN (s : ByteArray) : Bool := decide (s.data.toList.getLast? = some 10)
theorem endN_last (s : ByteArray) (h : 0 < s.size) : endN s = decide (s[s.size - 1] = 10) := by
  unfold endN
  rw [decide_eq_decide, List.getLast?_eq_getElem?, ← Lib.size_eq, List.getElem?_eq_getElem (by simpa using (show s.size - 1 < s.size by omega))]
  simp; rfl
/-- what a text's lines stand for -/
def rdoc (s : ByteArray) : Option (List (List ByteArray)) := if s.data.toList = [] then some [] else if endN s = true then unlL (pcs 10 (s.extract 0 (s.size - 1))) else none
end Go.Proofs.YtbfgkbcpkldofaaDoor

namespace Go.Proofs.YtbfgkbcpkldofaaDoor
open Go.RowKit

/-- bytes in memory, as a list of bytes -/
structure BSrc (w : World) (B : Nat) (sp : Option Addr) (n cap : Nat) (l : List UInt8) : Prop where
  len : l.length = n
  cells : 0 < n → ∃ bb off, sp = some ⟨bb, off, none⟩ ∧ bb < B ∧ n ≤ cap ∧ ∀ j (hj : j < l.length), w.cell? ⟨bb, off + j, none⟩ = some (.int .u8 (l[j].toNat : Int))
theorem BSrc.below {w w' : World} {B B' : Nat} {sp : Option Addr} {n cap : Nat} {l : List UInt8} (h : BSrc w B sp n cap l) (hb : Below B' w w') (hB : B ≤ B') : BSrc w' B sp n cap l :=
  ⟨h.len, fun hn => by
    obtain ⟨bb, off, e, hlt, hc, hcell⟩ := h.cells hn
    exact ⟨bb, off, e, hlt, hc, fun j hj => (hb.cell (p := ⟨bb, off + j, none⟩) (by show bb < B'; omega)).trans (hcell j hj)⟩⟩
theorem run_conv_src {w : World} {B : Nat} {sp : Option Addr} {n cap c2 : Nat} {l : List UInt8} (h : BSrc w B sp n cap l) : (convert 51 9 (.slice sp n c2)).run Tryd.prog w = .ok (.string ⟨l.toArray⟩) w := by
  by_cases hn : n = 0
  · have hl : l = [] := List.eq_nil_of_length_eq_zero (by rw [h.len]; exact hn)
    subst hn hl
    cases sp with
    | none =>
      rw [run_convert_bytes_string w 51 9 5 none 0 c2 Tryd.underlying51 Tryd.underlying5 Tryd.underlying9]
      rfl
    | some ad => exact run_convert_bytes_back w 51 9 5 ad c2 [] Tryd.underlying51 Tryd.underlying5 Tryd.underlying9 (fun j hj => absurd hj (by simp))
  · obtain ⟨bb, off, rfl, _, _, hc⟩ := h.cells (by omega)
    have := run_convert_bytes_back w 51 9 5 ⟨bb, off, none⟩ c2 l Tryd.underlying51 Tryd.underlying5 Tryd.underlying9 (fun j hj => by rw [Addr.add_mid]; exact hc j hj)
    rwa [h.len] at this
theorem own_le {w : World} {base e : Nat} {sp : Option Addr} {n cap : Nat} {xs : List Value} (h : w.ownsRow base e 1 (.slice sp n cap) n xs) : n ≤ maxLen := by
  obtain ⟨_, ⟨_, h2⟩ | ⟨g, c, u, _, _, _, h3, h4, _⟩⟩ := h
  · subst h2; exact Nat.zero_le _
  · exact Nat.le_trans h3 h4
theorem strs_own {w : World} {base : Nat} {q : Ln} (h : LnOwn w base q) : StrsIn w w.heap.size q.sp q.n q.l := by
  unfold LnOwn at h
  obtain ⟨h0, h1⟩ := h
  rw [List.length_map, Nat.mul_one] at h0
  refine ⟨h0, fun hn => ?_⟩
  rcases h1 with ⟨_, h2⟩ | ⟨g, c, u, e, _, hg, _, _, hs, ht⟩
  · omega
  · injection e with e1 e2 e3
    refine ⟨g, 0, e1, (Array.getElem?_eq_some_iff.1 hg).1, fun j hj => ?_⟩
    rw [cell_of_row w g (0 + j) u _ _ hg, Nat.zero_add]
    have h5 : (u.toList.take (q.n * 1))[j]? = some (.string q.l[j]) := by rw [ht]; simp [hj]
    rw [List.getElem?_take, if_pos (by omega)] at h5
    simpa using h5
theorem lines_own {w : World} {base : Nat} {sp : Option Addr} {cap : Nat} {ls : List Ln} (h : w.ownsRow base 43 1 (.slice sp ls.length cap) ls.length (ls.map Ln.val)) (he : ∀ q ∈ ls, LnOwn w base q) : LinesIn w w.heap.size sp ls.length ls := by
  refine ⟨rfl, fun hn => ?_, fun q hq => strs_own (he q hq)⟩
  obtain ⟨_, ⟨_, h2⟩ | ⟨g, c, u, e, _, hg, _, _, hs, ht⟩⟩ := h
  · omega
  · injection e with e1 e2 e3
    refine ⟨g, 0, e1, (Array.getElem?_eq_some_iff.1 hg).1, fun j hj => ?_⟩
    rw [cell_of_row w g (0 + j) u _ _ hg, Nat.zero_add]
    have h5 : (u.toList.take (ls.length * 1))[j]? = some ls[j].val := by rw [ht]; simp [hj]
    rw [List.getElem?_take, if_pos (by omega)] at h5
    simpa using h5
/-- what Decode returns, as code and lines -/
def decC (S : ByteArray) : Nat × List (List ByteArray) := if 262144 < S.size then (3, []) else match rdoc S with
  | none => (2, [])
  | some L => if chk L = 0 then (0, L) else (2, [])
def DecRes (w : World) (r : Nat × List (List ByteArray)) (e : Ending) (w' : World) : Prop :=
  ∃ (sp : Option Addr) (cap : Nat) (ls : List Ln), wordsOf ls = r.2 ∧ e = .returned (.tuple #[.slice sp ls.length cap, .int .i64 (r.1 : Int)]) ∧ w'.ownsRow w.heap.size 43 1 (.slice sp ls.length cap) ls.length (ls.map Ln.val) ∧ (∀ q ∈ ls, LnOwn w' w.heap.size q) ∧ Below w.heap.size w w'
theorem decRes_no {w : World} {r : Nat × List (List ByteArray)} {c : Nat} {e : Ending} {w' : World} (h : r = (c, [])) (he : e = .returned (.tuple #[.slice none 0 0, .int .i64 (c : Int)])) (hb : Below w.heap.size w w') : DecRes w r e w' := by
  subst h
  exact ⟨none, 0, [], rfl, he, World.ownsRow_nil _ _ _ _, (fun q hq => by cases hq), hb⟩
end Go.Proofs.YtbfgkbcpkldofaaDoor
