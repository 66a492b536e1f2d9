/-
  Stores: lemmas for the statements' filled (rows that the call owns, of blobs, bytes and strings, kept when a row of digests grows).
-/
import Derived.Test.YtfehgkpmjnmpeaaDoorStsJ
import Derived.Test.YtfehgkpmjnmpeaaDoorGc
import Derived.Test.YtfehgkpmjnmpeaaDoorGe
import Derived.Test.YtfehgkpmjnmpeaaDoorNumC
import Derived.Test.YtfehgkpmjnmpeaaDoorStoO
namespace Go.Proofs.YtfehgkpmjnmpeaaDoor
open Go.RowKit

theorem enc_le (ls : List (List ByteArray)) : (enc ls).2.length ≤ 262144 := by
  unfold enc
  split
  · split
    · simp
    · rename_i h; simp only []; omega
  · simp
def intsU (l : List UInt8) : List Int := l.map fun u => (u.toNat : Int)
theorem cells_ints (l : List UInt8) : Lib.byteCells l = (intsU l).map (Value.int .u8) := by unfold Lib.byteCells intsU; rw [List.map_map]; rfl
theorem intsU_byt (l : List UInt8) : Byt (intsU l) := fun x hx => by
  obtain ⟨u, _, rfl⟩ := List.mem_map.1 hx
  have := u.toNat_lt
  constructor <;> omega
theorem intsU_len (l : List UInt8) : (intsU l).length = l.length := by simp [intsU]
/-- its data lies in a row of bytes that the call owns -/
def OwnU (w : World) (base : Nat) (x : Bl) : Prop := w.ownsRow base 5 1 (.slice x.sp x.n x.cap) x.n (x.b.map (Value.int .u8)) ∧ Byt x.b
theorem OwnU.dat {w : World} {base : Nat} {x : Bl} (h : OwnU w base x) : DatIn w w.heap.size x := by
  obtain ⟨⟨hl, h1⟩, hb⟩ := h
  have hlen : x.b.length = x.n := by rw [List.length_map] at hl; omega
  refine ⟨⟨hlen, hb, fun hp => ?_⟩, fun hs => ?_⟩
  · rcases h1 with ⟨_, h0⟩ | ⟨g, cap, cur, e, _, hg, hle, _, hsz, htk⟩
    · omega
    · injection e with e1 e2 e3
      refine ⟨g, 0, e1, (Array.getElem?_eq_some_iff.1 hg).1, by rw [e3]; exact hle, fun j hj => ?_⟩
      rw [Nat.zero_add, cell_of_row w g j cur _ _ hg]
      have h4 : (cur.toList.take (x.n * 1))[j]? = (x.b.map (Value.int .u8))[j]? := by rw [htk]
      rw [List.getElem?_take, if_pos (by omega), getD_mapD x.b j (by omega)] at h4
      simpa using h4
  · rcases h1 with ⟨e, h0⟩ | ⟨g, cap, cur, e, _⟩
    · injection e with e1 e2 e3
    · injection e with e1; rw [hs] at e1; cases e1
theorem OwnU.below {w w' : World} {base : Nat} {x : Bl} (h : OwnU w base x) (hb : Below w.heap.size w w') : OwnU w' base x := ⟨own_belowG h.1 hb, h.2⟩
theorem OwnU.base {w : World} {b b' : Nat} {x : Bl} (h : OwnU w b x) (hb : b' ≤ b) : OwnU w b' x := ⟨own_lessG h.1 hb, h.2⟩
/-- rows of different types are different rows -/
theorem own_neT {w : World} {b1 b2 e1 e2 s1 s2 n1 n2 : Nat} {v1 v2 : Value} {x1 x2 : List Value} (h1 : w.ownsRow b1 e1 s1 v1 n1 x1) (h2 : w.ownsRow b2 e2 s2 v2 n2 x2) (hne : e1 ≠ e2) : v1.ownBlock = none ∨ v1.ownBlock ≠ v2.ownBlock := by
  obtain ⟨_, ⟨rfl, _⟩ | ⟨g, cap, cur, rfl, _, hg, _⟩⟩ := h1
  · exact .inl rfl
  · obtain ⟨_, ⟨rfl, _⟩ | ⟨g', cap', cur', rfl, _, hg', _⟩⟩ := h2
    · exact .inr (by simp [Value.ownBlock])
    · refine .inr fun e => ?_
      have e' : g = g' := by simpa [Value.ownBlock] using e
      subst e'
      rw [hg] at hg'
      injection hg' with hg'; injection hg' with _ h _
      exact hne h
/-- a store whose rows the call owns -/
structure Sto (w : World) (base : Nat) (sp : Option Addr) (n c : Nat) (l : List Bl) : Prop where
  own : OwnB w base (.slice sp n c) l
  dat : ∀ x ∈ l, OwnU w base x
theorem Sto.nil (w : World) (base : Nat) : Sto w base none 0 0 [] := ⟨OwnB.nil w base, fun x hx => by cases hx⟩
theorem Sto.bls {w : World} {base : Nat} {sp : Option Addr} {n c : Nat} {l : List Bl} (h : Sto w base sp n c l) (hn : l.length = n) : BlsIn w w.heap.size sp n c l := h.own.bls hn (fun x hx => (h.dat x hx).dat)
theorem Sto.below {w w' : World} {base : Nat} {sp : Option Addr} {n c : Nat} {l : List Bl} (h : Sto w base sp n c l) (hb : Below w.heap.size w w') : Sto w' base sp n c l := ⟨h.own.below hb, fun x hx => (h.dat x hx).below hb⟩
theorem ne_types : 52 ≠ 32 ∧ 5 ≠ 32 := by decide
theorem Sto.kept {w w' : World} {base b2 : Nat} {sp : Option Addr} {n c : Nat} {l : List Bl} {v : Value} {ds : List (List Int)} (h : Sto w base sp n c l) (hd : OwnDg w b2 v ds) (hg : w.grownBy w' v.ownBlock) : Sto w' base sp n c l :=
  ⟨⟨h.own.1.kept hg (own_neT h.own.1 hd.1 ne_types.1), h.own.2⟩, fun x hx => ⟨(h.dat x hx).1.kept hg (own_neT (h.dat x hx).1 hd.1 ne_types.2), (h.dat x hx).2⟩⟩
/-- strings that the call owns -/
theorem infoStrK : (Tryd.prog.info? 9).map (fun i => (i.zero, i.size, i.bytes)) = some (some (.string ⟨#[]⟩), 1, 16) := by kernel_rfl
def OwnSt (w : World) (base : Nat) (v : Value) (l : List ByteArray) : Prop := w.ownsRow base 9 1 v l.length (l.map Value.string)
theorem OwnSt.below {w w' : World} {base : Nat} {v : Value} {l : List ByteArray} (h : OwnSt w base v l) (hb : Below w.heap.size w w') : OwnSt w' base v l := own_belowG h hb
theorem OwnSt.two (w : World) (b base : Nat) (x y : ByteArray) (h : w.heap[b]? = some (.cells #[.string x, .string y] 9 (0, 0))) (hb : base ≤ b) : OwnSt w base (.slice (some ⟨b, 0, none⟩) 2 2) [x, y] :=
  ⟨rfl, .inr ⟨b, 2, #[.string x, .string y], rfl, hb, h, Nat.le_refl _, by unfold maxLen; omega, rfl, rfl⟩⟩
/-- append(own, x) -/
theorem wpList_append_ss {w : World} {ops : Array Oper} {rest : List Oper} {o : Oper} {a : Act} {Q : Exit → Act → World → Prop} (hgd : o.guard = none) (s x : Operand)
    (ho : o.op = .call { callee := .builtin .append, args := #[s, x], argTypes := #[54, 54] }) (base : Nat) (v : Value) (l : List ByteArray) (n : Nat) (hn : n = l.length) (hs : a.eval s = v) (hown : OwnSt w base v l)
    (g : Nat) (y : ByteArray) (hx : a.eval x = .slice (some ⟨g, 0, none⟩) 1 1) (hy : w.heap[g]? = some (.cells #[.string y] 9 (0, 0))) (hlen : n ≤ 1000000) (hbase : base ≤ w.heap.size)
    (h : ∀ sp cap w', Hid (OwnSt w' base (.slice sp (n + 1) cap) (l ++ [y])) → Hid (Below base w w') → Hid (w.grownBy w' v.ownBlock) → wpList Tryd.prog ops Q rest (a.put o.dst (.slice sp (n + 1) cap)) w') : wpList Tryd.prog ops Q (o :: rest) a w := by
  subst hn
  obtain ⟨i0, hi0, hz0, hz1, hz2⟩ := info_parts infoStrK
  refine wpList_append_own w hgd s x _ ho base _ i0 _ 1 16 Tryd.underlying54 hi0 hz0 hz1 hz2 rfl (by decide) v l.length _ hs hown ⟨g, 0, none⟩ 1 1 [.string y] hx rfl ?_ (by intro u hu; rw [List.mem_singleton.1 hu]; rfl) (by unfold maxLen; omega) (by omega) hbase ?_
  · intro j u hj
    rw [Addr.add_mid, cell_of_row w g (0 + j) _ _ _ hy, Nat.zero_add]
    simpa using hj
  · intro v' w' h1 h2 _
    obtain ⟨sp, cap, rfl⟩ := own_shapeG h1
    refine h sp cap w' ?_ ((Below.refl base w).grown h2 hbase (own_baseG hown)) h2
    show OwnSt _ _ _ _
    unfold OwnSt
    rw [List.length_append, List.map_append]
    exact h1
theorem OwnSt.strs {w : World} {base : Nat} {sp : Option Addr} {n cap : Nat} {l : List ByteArray} (h : OwnSt w base (.slice sp n cap) l) (hn : l.length = n) : StrsIn w w.heap.size sp n l := by
  refine ⟨hn, fun hp => ?_⟩
  have h1 := h
  obtain ⟨_, ⟨e, h0⟩ | ⟨g, cap', cur, e, _⟩⟩ := h1
  · omega
  · injection e with e1 e2 e3
    subst e1
    have h2 : w.ownsRow base 9 1 (.slice (some ⟨g, 0, none⟩) n cap) l.length (l.flatMap fun x => [Value.string x]) := by
      rw [← List.map_eq_flatMap]; exact h
    obtain ⟨hlt, _, hr⟩ := own_rangeG h2 (fun _ _ => rfl) hn
    refine ⟨g, 0, rfl, hlt, fun j hj => ?_⟩
    have h3 := hr j l[j] (List.getElem?_eq_getElem hj) 0 _ rfl
    rw [Nat.mul_one] at h3
    exact h3
theorem idx_val (v : Int) (m : Nat) (hm : 1 ≤ m) (hm2 : m ≤ 1000000) : ∃ r : Nat, r < m ∧ (wrap64 (v.tmod m + m)).tmod m = r := by
  have h1 : v.tmod m < m := Int.tmod_lt_of_pos _ (by omega)
  have h2 : -(m : Int) < v.tmod m := by have := Int.lt_tmod_of_pos v (b := (m : Int)) (by omega); omega
  have h3 : wrap64 (v.tmod m + m) = v.tmod m + m := by unfold wrap64; omega
  rw [h3, Int.tmod_eq_emod_of_nonneg (by omega)]
  have h4 := Int.emod_nonneg (v.tmod m + m) (b := (m : Int)) (by omega)
  have h5 := Int.emod_lt_of_pos (v.tmod m + m) (b := (m : Int)) (by omega)
  exact ⟨((v.tmod m + m) % m).toNat, by omega, by omega⟩
theorem good_ins {l : List Bl} {x : Bl} {k : Nat} (h : GoodP (l.map bp)) (hd : x.d = shb x.b) (hs : x.b.length ≤ 262144) (h1 : ∀ y ∈ l.take k, dls y.d x.d = true) (h2 : ∀ y, l[k]? = some y → dls y.d x.d = false) (hn : ∀ y ∈ l, y.d ≠ x.d) : GoodP ((l.take k ++ x :: l.drop k).map bp) := by
  have := GoodP.ins (x := bp x) (k := k) h hd hs (fun y hy => by
    rw [← List.map_take] at hy
    obtain ⟨z, hz, rfl⟩ := List.mem_map.1 hy; exact h1 z hz) (fun y hy => by
    rw [List.getElem?_map] at hy
    cases hz : l[k]? with
    | none => rw [hz] at hy; cases hy
    | some z => rw [hz] at hy; injection hy with hy; rw [← hy]; exact h2 z hz) (fun y hy => by
    obtain ⟨z, hz, rfl⟩ := List.mem_map.1 hy; exact hn z hz)
  rw [List.map_append, List.map_cons, List.map_take, List.map_drop]; exact this
end Go.Proofs.YtfehgkpmjnmpeaaDoor
