/-
  The walk of the iterator that sideBySide makes: it calls yield with the pairs that two lists have side by side, in their order (conditions: digests of 32 bytes, at most 1000000 elements each; a round that goes on leaves the two lists as they were).
-/
import Derived.Test.YtecllfbadciaoaaGreatDoorQ5
import Derived.RangeFuncKeeps
set_option maxRecDepth 100000
set_option maxHeartbeats 8000000
namespace Go.Proofs.YtecllfbadciaoaaGreatDoor
open Go.RowKit
theorem CgsIn.at {w : World} {B g off n cap : Nat} {l : List Cg} (h : CgsIn w B (some ⟨g, off, none⟩) n cap l) {i : Nat} {x : Cg} (hi : l[i]? = some x) : g < B ∧ w.rangeAt g (off + i * 65) (cgL x) := by
 have hl := (List.getElem?_eq_some_iff.1 hi).1
 obtain ⟨b, o, e, hb, _, hr⟩ := h.cells (by have := h.len; omega)
 injection e with e; injection e with e1 e2; subst e1 e2
 exact ⟨hb, hr i x hi⟩
theorem rng_sub {w : World} {g o : Nat} {cs : List Value} (h : w.rangeAt g o cs) (k : Nat) (sub : List Value) (hs : ∀ j v, sub[j]? = some v → cs[k + j]? = some v) : w.rangeAt g (o + k) sub := by
 intro j v hv
 have := h (k + j) v (hs j v hv)
 show w.cell? ⟨g, o + k + j, none⟩ = some v
 rw [Nat.add_assoc]; exact this
structure SbIn (w : World) (B ba bb : Nat) (spa : Option Addr) (na ca : Nat) (a : List Cg) (spb : Option Addr) (nb cb : Nat) (b : List Cg) : Prop where
 pa : w.cell? ⟨ba, 0, none⟩ = some (.slice spa na ca)
 pb : w.cell? ⟨bb, 0, none⟩ = some (.slice spb nb cb)
 la : CgsIn w B spa na ca a
 lb : CgsIn w B spb nb cb b
def Keep3 (B ba bb : Nat) (W W' : World) : Prop := W.heap.size ≤ W'.heap.size ∧ (∀ k, k < B → W'.heap[k]? = W.heap[k]?) ∧ W'.heap[ba]? = W.heap[ba]? ∧ W'.heap[bb]? = W.heap[bb]?
theorem Keep3.trans {B ba bb : Nat} {X Y Z : World} (h : Keep3 B ba bb X Y) (k : Keep3 B ba bb Y Z) : Keep3 B ba bb X Z := ⟨Nat.le_trans h.1 k.1, fun i hi => (k.2.1 i hi).trans (h.2.1 i hi), k.2.2.1.trans h.2.2.1, k.2.2.2.trans h.2.2.2⟩
theorem CgsIn.keep {w w' : World} {B : Nat} {sp : Option Addr} {n cap : Nat} {l : List Cg} (h : CgsIn w B sp n cap l) (hk : ∀ k, k < B → w'.heap[k]? = w.heap[k]?) : CgsIn w' B sp n cap l :=
 ⟨h.len, h.ok, fun hn => by
  obtain ⟨b, off, e, hlt, hc, hr⟩ := h.cells hn
  exact ⟨b, off, e, hlt, hc, fun i x hi j v hv => (World.cell?_of_block (a := ⟨b, off + i * 65 + j, none⟩) (hk b hlt)).trans (hr i x hi j v hv)⟩⟩
theorem SbIn.keep {w w' : World} {B ba bb : Nat} {spa : Option Addr} {na ca : Nat} {a : List Cg} {spb : Option Addr} {nb cb : Nat} {b : List Cg} (h : SbIn w B ba bb spa na ca a spb nb cb b) (hk : Keep3 B ba bb w w') : SbIn w' B ba bb spa na ca a spb nb cb b :=
 ⟨(World.cell?_of_block (a := ⟨ba, 0, none⟩) hk.2.2.1).trans h.pa, (World.cell?_of_block (a := ⟨bb, 0, none⟩) hk.2.2.2).trans h.pb, h.la.keep hk.2.1, h.lb.keep hk.2.1⟩
structure TwoB (wr w : World) (cx cy : Array Value) : Prop where
 b : Below wr.heap.size wr w
 x : w.heap[wr.heap.size]? = some (.cells cx 86 (0, 0))
 y : w.heap[wr.heap.size + 1]? = some (.cells cy 86 (0, 0))
theorem TwoB.new (wr : World) (cx cy : Array Value) : TwoB wr ((wr.alloc (.cells cx 86)).alloc (.cells cy 86)) cx cy :=
 ⟨((Below.refl _ wr).alloc (Nat.le_refl _) _).alloc (by simp) _, (Below.heap_alloc _ _ _ (by simp)).trans (heap_alloc_new wr _), by
   have := heap_alloc_new (wr.alloc (.cells cx 86)) (.cells cy 86); rwa [World.size_alloc] at this⟩
theorem TwoB.size {wr w : World} {cx cy : Array Value} (h : TwoB wr w cx cy) : wr.heap.size + 1 < w.heap.size := (Array.getElem?_eq_some_iff.1 h.y).1
theorem TwoB.next {wr w w' : World} {cx cy : Array Value} (h : TwoB wr w cx cy) (hb : Below w.heap.size w w') : TwoB wr w' cx cy :=
 ⟨h.b.trans (hb.mono h.b.size), (hb.block _ (by have := h.size; omega)).trans h.x, (hb.block _ h.size).trans h.y⟩
end Go.Proofs.YtecllfbadciaoaaGreatDoor
