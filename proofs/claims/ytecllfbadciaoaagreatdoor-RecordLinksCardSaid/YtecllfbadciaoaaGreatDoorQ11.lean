/-
  The walks of the reference's FormatHalf and Format.
-/
import Derived.Test.YtecllfbadciaoaaGreatDoorQ10
set_option maxRecDepth 100000
set_option maxHeartbeats 8000000
namespace Go.Proofs.YtecllfbadciaoaaGreatDoor
open Go.RowKit
def hexv (c : UInt8) : Nat := if 48 ≤ c.toNat ∧ c.toNat ≤ 57 then c.toNat - 48 else if 97 ≤ c.toNat ∧ c.toNat ≤ 102 then c.toNat - 87 else 16
def hby (l : List UInt8) (i : Nat) : Int := ((16 * hexv (l.getD (2 * i) 0) + hexv (l.getD (2 * i + 1) 0) : Nat) : Int)
def hok1 (l : List UInt8) (i : Nat) : Bool := decide (hexv (l.getD (2 * i) 0) < 16) && decide (hexv (l.getD (2 * i + 1) 0) < 16)
def hok (l : List UInt8) (n : Nat) : Bool := (List.range n).all (hok1 l)
def hbs (l : List UInt8) (n : Nat) : List Int := (List.range n).map (hby l)
def fmtD (d : List Int) : ByteArray := ⟨([115, 104, 97, 50, 53, 54, 58] ++ hexB d).toArray⟩
def lineE (tag : ByteArray) (x : En) : List ByteArray := [tag, x.p, fmtD x.d]
theorem own_shapeL {w : World} {base e size : Nat} {v : Value} {n : Nat} {xs : List Value} (h : w.ownsRow base e size v n xs) : ∃ sp cap, v = .slice sp n cap := by
 obtain ⟨_, ⟨rfl, rfl⟩ | ⟨g, cap, cur, rfl, _⟩⟩ := h
 ·exact ⟨none, 0, rfl⟩
 ·exact ⟨_, cap, rfl⟩
theorem own_baseL {w : World} {base e size : Nat} {v : Value} {n : Nat} {xs : List Value} (h : w.ownsRow base e size v n xs) : ∀ k, v.ownBlock = some k → base ≤ k := fun k hk => (h.lt k hk).1
theorem own_belowL {w w' : World} {B e size n : Nat} {v : Value} {xs : List Value} (h : w.ownsRow B e size v n xs) (hb : Below w.heap.size w w') : w'.ownsRow B e size v n xs := by
 obtain ⟨h0, h1 | ⟨g, cap, cur, h1, h2, h3, h4⟩⟩ := h
 ·exact ⟨h0, .inl h1⟩
 ·exact ⟨h0, .inr ⟨g, cap, cur, h1, h2, (hb.block g (Array.getElem?_eq_some_iff.1 h3).1).trans h3, h4⟩⟩
theorem own_apartL {w : World} {b1 b2 e1 e2 s1 s2 : Nat} {v1 v2 : Value} {n1 n2 : Nat} {x1 x2 : List Value} (h1 : w.ownsRow b1 e1 s1 v1 n1 x1) (h2 : w.ownsRow b2 e2 s2 v2 n2 x2) (hne : e1 ≠ e2) : v1.ownBlock = none ∨ v1.ownBlock ≠ v2.ownBlock := by
 obtain ⟨_, ⟨rfl, _⟩ | ⟨g1, c1, u1, rfl, _, g1h, _⟩⟩ := h1
 ·exact .inl rfl
 ·obtain ⟨_, ⟨rfl, _⟩ | ⟨g2, c2, u2, rfl, _, g2h, _⟩⟩ := h2
  ·exact .inr (by simp [Value.ownBlock])
  ·refine .inr (fun e => hne ?_)
   have e' : g1 = g2 := by simpa [Value.ownBlock] using e
   subst e'
   rw [g1h] at g2h
   injection g2h with g2h
   injection g2h
theorem infoLnL : (Tryz.prog.info? 27).map (fun i => (i.zero, i.size, i.bytes)) = some (some (.slice none 0 0), 1, 24) := by kernel_rfl
def LnOwnL (w : World) (base : Nat) (q : Ln) : Prop := w.ownsRow base 9 1 (.slice q.sp q.n q.cap) q.n (q.l.map Value.string)
theorem lnOwn_new3 (w : World) (base : Nat) (hb : base ≤ w.heap.size) (a b c : ByteArray) : LnOwnL (w.alloc (.cells #[.string a, .string b, .string c] 9)) base ⟨some ⟨w.heap.size, 0, none⟩, 3, 3, [a, b, c]⟩ :=
 ⟨rfl, .inr ⟨w.heap.size, 3, _, rfl, hb, heap_alloc_new w _, Nat.le_refl _, by unfold maxLen; omega, rfl, rfl⟩⟩
structure LnsOwn (w : World) (base : Nat) (v : Value) (done : List Ln) : Prop where
 row : w.ownsRow base 27 1 v done.length (done.map Ln.val)
 each : ∀ q ∈ done, LnOwnL w base q
theorem LnsOwn.nil (w : World) (base : Nat) : LnsOwn w base (.slice none 0 0) [] := ⟨World.ownsRow_nil w base _ _, fun q hq => by cases hq⟩
theorem LnsOwn.below {w w' : World} {base : Nat} {v : Value} {done : List Ln} (h : LnsOwn w base v done) (hb : Below w.heap.size w w') : LnsOwn w' base v done :=
 ⟨own_belowL h.row hb, fun q hq => own_belowL (h.each q hq) hb⟩
theorem slice3 (w : World) (a b c : ByteArray) : (Instr.buildSlice 27 3 #[(0, .string a), (1, .string b), (2, .string c)]).run Tryz.prog w = .ok (.slice (some ⟨w.heap.size, 0, none⟩) 3 3) (w.alloc (.cells #[.string a, .string b, .string c] 9)) := by kernel_rfl
theorem slice1L (w : World) (g : Nat) : (Instr.buildSlice 59 1 #[(0, .slice (some ⟨g, 0, none⟩) 3 3)]).run Tryz.prog w = .ok (.slice (some ⟨w.heap.size, 0, none⟩) 1 1) (w.alloc (.cells #[.slice (some ⟨g, 0, none⟩) 3 3] 27)) := by kernel_rfl
theorem wp_append_lns {o : Oper} {a : Act} {w : World} {K : Act → World → Prop} {Q : Exit → Act → World → Prop} (s x : Operand)
 (ho : o.op = .call { callee := .builtin .append, args := #[s, x], argTypes := #[59, 59] }) (base : Nat) (v : Value) (done : List Ln) (n : Nat) (hn : n = done.length) (hs : a.eval s = v) (hown : LnsOwn w base v done)
 (g : Nat) (y : Ln) (hx : a.eval x = .slice (some ⟨g, 0, none⟩) 1 1) (hc : w.cell? ⟨g, 0, none⟩ = some y.val) (hy : LnOwnL w base y) (hlen : n ≤ 1000000) (hbase : base ≤ w.heap.size)
 (h : ∀ sp cap w', Hid (LnsOwn w' base (.slice sp (n + 1) cap) (done ++ [y])) → Hid (Below base w w') → Hid (w.grownBy w' v.ownBlock) → K (a.put o.dst (.slice sp (n + 1) cap)) w') : o.wp Tryz.prog a w K Q := by
 subst hn
 obtain ⟨i0, hi0, hz0, hz1, hz2⟩ := info_parts infoLnL
 refine wp_append_own w s x _ ho base _ i0 _ 1 24 Tryz.underlying59 hi0 hz0 hz1 hz2 rfl (by decide) v done.length _ hs hown.row ⟨g, 0, none⟩ 1 1 [y.val] hx rfl ?_ (by intro u hu; simp at hu; subst hu; rfl) (by unfold maxLen; omega) (by omega) hbase ?_
 ·intro j u hj
  have hj0 : j = 0 := by have := (List.getElem?_eq_some_iff.1 hj).1; simp at this; omega
  subst hj0
  simp at hj; subst hj; rw [Addr.add_mid]; exact hc
 ·intro v' w' h1 h2 _
  obtain ⟨sp, cap, rfl⟩ := own_shapeL h1
  refine h sp cap w' ⟨by rw [List.length_append, List.map_append]; exact h1, fun q hq => ?_⟩ ((Below.refl base w).grown h2 hbase (own_baseL hown.row)) h2
  have hq1 : LnOwnL w base q := by
   rcases List.mem_append.1 hq with h | h
   ·exact hown.each q h
   ·rw [List.mem_singleton.1 h]; exact hy
  exact World.ownsRow.kept hq1 h2 (own_apartL hq1 hown.row (by decide))
end Go.Proofs.YtecllfbadciaoaaGreatDoor
