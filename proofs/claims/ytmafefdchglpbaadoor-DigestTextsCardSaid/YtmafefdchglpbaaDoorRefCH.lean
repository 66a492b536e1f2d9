/-
  Laws of the walk that the reference's texts use: a literal of no elements, the append of one byte to a row of the call's own, ranges of cells below (where the seat holds no Sum of the reference; else they stand in RefC).
-/
import Derived.Test.YtmafefdchglpbaaDoorShaL
import Derived.Laws.CopyOwn
import Derived.Deep.LoopGhost
import Derived.IntWalk
import Derived.Outline
import Derived.OwnWalk
import Derived.Deep.RegionHeld3
namespace Go.Proofs.YtmafefdchglpbaaDoor
open Go.RowKit

/-- a literal of no elements: a new block, its value behind a name -/
theorem wpList_build0 {P : Program} {w : World} {ops : Array Oper} {rest : List Oper} {o : Oper} {a : Act} {Q : Exit → Act → World → Prop} (hgd : o.guard = none) (t e : TypeId)
    (ho : o.op = .buildSlice t 0 #[]) (hrun : ∀ w, (Instr.buildSlice t 0 #[]).run P w = .ok (.slice (some ⟨w.heap.size, 0, none⟩) 0 0) (w.alloc (.cells #[] e)))
    (h : ∀ v0 w0, Hid (v0 = .slice (some ⟨w.heap.size, 0, none⟩) 0 0) → Hid (w0 = w.alloc (.cells #[] e)) → wpList P ops Q rest (a.put o.dst v0) w0) : wpList P ops Q (o :: rest) a w := by
  refine wpList_plain hgd fun K hK => ?_
  have hk := hK _ _ (h _ _ rfl rfl)
  have hr := hrun w
  unfold Oper.wp execOp
  simp only [ho]
  simp [hr]
  exact hk
theorem own_shapeC {w : World} {base e size : Nat} {v : Value} {n : Nat} {xs : List Value} (h : w.ownsRow base e size v n xs) : ∃ sp cap, v = .slice sp n cap := by
  obtain ⟨_, ⟨rfl, rfl⟩ | ⟨g, cap, cur, rfl, _⟩⟩ := h
  · exact ⟨none, 0, rfl⟩
  · exact ⟨_, cap, rfl⟩
theorem own_baseC {w : World} {base e size : Nat} {v : Value} {n : Nat} {xs : List Value} (h : w.ownsRow base e size v n xs) : ∀ k, v.ownBlock = some k → base ≤ k := fun k hk => (h.lt k hk).1
/-- append(own, one byte) -/
theorem wpList_append_byte {P : Program} {w : World} {ops : Array Oper} {rest : List Oper} {o : Oper} {a : Act} {Q : Exit → Act → World → Prop} (hgd : o.guard = none) (s x : Operand) (t e : TypeId)
    (ho : o.op = .call { callee := .builtin .append, args := #[s, x], argTypes := #[t, t] }) (ht : P.underlying t = some (.slice e)) (hi : (P.info? e).map (fun i => (i.zero, i.size, i.bytes)) = some (some (.int .u8 0), 1, 1))
    (base : Nat) (v : Value) (xs : List Int) (n : Nat) (hs : a.eval s = v) (hn : n = xs.length) (hown : w.ownsRow base e 1 v n (xs.map (Value.int .u8)))
    (g : Nat) (y : Int) (hx : a.eval x = .slice (some ⟨g, 0, none⟩) 1 1) (hc : w.cell? ⟨g, 0, none⟩ = some (.int .u8 y))
    (hlen : n ≤ 2199023255552) (hbase : base ≤ w.heap.size)
    (h : ∀ sp cap w', Hid (w'.ownsRow base e 1 (.slice sp (n + 1) cap) (n + 1) ((xs ++ [y]).map (Value.int .u8))) → w.grownBy w' v.ownBlock → wpList P ops Q rest (a.put o.dst (.slice sp (n + 1) cap)) w') : wpList P ops Q (o :: rest) a w := by
  obtain ⟨i0, hi0, hz0, hz1, hz2⟩ := info_parts hi
  refine wpList_append_own w hgd s x t ho base e i0 (.int .u8 0) 1 1 ht hi0 hz0 hz1 hz2 rfl (by decide) v n _ hs hown ⟨g, 0, none⟩ 1 1 [.int .u8 y] hx rfl ?_ (by intro u hu; simp at hu; subst hu; rfl) (by unfold maxLen; omega) (by omega) hbase ?_
  · intro j u hj
    match j, hj with
    | 0, hj => simp at hj; subst hj; rw [Addr.add_mid]; exact hc
  · intro v' w' h1 h2 _
    obtain ⟨sp, cap, rfl⟩ := own_shapeC h1
    exact h sp cap w' (by show World.ownsRow _ _ _ _ _ _ _; rw [List.map_append]; exact h1) h2
theorem range_below2 {w w' : World} {b o B : Nat} {cs : List Value} (h : w.rangeAt b o cs) (hb : Below B w w') (hlt : b < B) : w'.rangeAt b o cs := fun j v hv => (hb.cell (p := ⟨b, o + j, none⟩) hlt).trans (h j v hv)
theorem there_below2 {w w' : World} {b o B n : Nat} (h : w.there b o n) (hb : Below B w w') (hlt : b < B) : w'.there b o n := fun j hj => by
  rw [hb.cell (p := ⟨b, o + j, none⟩) hlt, hb.frozen (p := ⟨b, o + j, none⟩) hlt]; exact h j hj
theorem row_range {w : World} {b : Nat} {t : TypeId} {k : IntKind} {L : List Int} (h : RowIn w b t k L) : w.rangeAt b 0 (L.map (Value.int k)) := fun j v hv => by
  rw [Nat.zero_add]; exact heap_cell h hv
theorem row_there {w : World} {b : Nat} {t : TypeId} {k : IntKind} {L : List Int} {n : Nat} (h : RowIn w b t k L) (hn : L.length = n) : w.there b 0 n := fun j hj => by
  rw [Nat.zero_add]; exact ⟨by rw [h.get j (by omega)]; rfl, h.free j⟩
end Go.Proofs.YtmafefdchglpbaaDoor
