/-
  Blocks that a call has made, as a list: what stands in each, through calls, new blocks and stores; in any order. It names no program's function.
-/
import Derived.Test.YtbbeeajkclbaaaaDoorProg
import Derived.WalkKit
import Derived.Below
import Derived.Laws.CopyOwn
import Derived.Deep.MidRow
import Derived.Laws.AppendOwn
import Derived.OwnWalk
set_option maxRecDepth 100000
set_option maxHeartbeats 8000000
namespace Go.Proofs.YtbbeeajkclbaaaaDoor
open Go.RowKit
structure Blks (B : Nat) (w0 w : World) (l : List (Nat × Obj)) : Prop where
 b : Below B w0 w
 k : B ≤ w.heap.size
 h : ∀ p ∈ l, B ≤ p.1 ∧ p.1 < w.heap.size ∧ w.heap[p.1]? = some p.2
 nd : (l.map Prod.fst).Nodup
theorem Blks.start {B : Nat} {w0 w : World} (h : Below B w0 w) (hk : B ≤ w.heap.size) : Blks B w0 w [] := ⟨h, hk, by simp, by simp⟩
theorem Blks.drew {B : Nat} {w0 w : World} {l : List (Nat × Obj)} (h : Blks B w0 w l) : Blks B w0 w.drew l := ⟨h.b.drew, h.k, h.h, h.nd⟩
theorem Blks.call {B : Nat} {w0 w w' : World} {l : List (Nat × Obj)} (h : Blks B w0 w l) (hb : Below w.heap.size w w') : Blks B w0 w' l :=
 ⟨h.b.trans (hb.mono h.k), Nat.le_trans h.k hb.size, fun p hp => ⟨(h.h p hp).1, Nat.lt_of_lt_of_le (h.h p hp).2.1 hb.size, (hb.block _ (h.h p hp).2.1).trans (h.h p hp).2.2⟩, h.nd⟩
theorem Blks.alloc {B : Nat} {w0 w : World} {l : List (Nat × Obj)} (h : Blks B w0 w l) (o : Obj) : Blks B w0 (w.alloc o) ((w.heap.size, o) :: l) :=
 ⟨h.b.alloc h.k o, by simp; exact Nat.le_succ_of_le h.k, fun p hp => by
  rcases List.mem_cons.1 hp with rfl | hp
  ·exact ⟨h.k, by simp, heap_alloc_new w o⟩
  ·exact ⟨(h.h p hp).1, by simp; exact Nat.lt_succ_of_lt (h.h p hp).2.1, (heap_alloc_old w o (h.h p hp).2.1).trans (h.h p hp).2.2⟩, by
  rw [List.map_cons, List.nodup_cons]
  refine ⟨fun hm => ?_, h.nd⟩
  obtain ⟨p, hp, e⟩ := List.mem_map.1 hm
  have := (h.h p hp).2.1
  omega⟩
theorem Blks.at {B : Nat} {w0 w : World} {l : List (Nat × Obj)} (h : Blks B w0 w l) (i : Nat) {g : Nat} {o : Obj} (hi : l[i]? = some (g, o)) : w.heap[g]? = some o := (h.h (g, o) (List.mem_of_getElem? hi)).2.2
theorem Blks.lt {B : Nat} {w0 w : World} {l : List (Nat × Obj)} (h : Blks B w0 w l) (i : Nat) {g : Nat} {o : Obj} (hi : l[i]? = some (g, o)) : B ≤ g ∧ g < w.heap.size := ⟨(h.h (g, o) (List.mem_of_getElem? hi)).1, (h.h (g, o) (List.mem_of_getElem? hi)).2.1⟩
theorem Blks.ne {B : Nat} {w0 w : World} {l : List (Nat × Obj)} (h : Blks B w0 w l) (i j : Nat) {g g' : Nat} {o o' : Obj} (hi : l[i]? = some (g, o)) (hj : l[j]? = some (g', o')) (hij : i ≠ j) : g ≠ g' := fun e => by
 obtain ⟨h1, e1⟩ := List.getElem?_eq_some_iff.1 hi
 obtain ⟨h2, e2⟩ := List.getElem?_eq_some_iff.1 hj
 refine hij ((List.getElem_inj (i := i) (j := j) (h₀ := by simpa using h1) (h₁ := by simpa using h2) h.nd).1 ?_)
 rw [List.getElem_map, List.getElem_map, e1, e2]
 exact e
theorem Blks.set {B : Nat} {w0 w : World} {l : List (Nat × Obj)} (h : Blks B w0 w l) (i : Nat) {g : Nat} {cs : Array Value} {t : TypeId} (hi : l[i]? = some (g, .cells cs t (0, 0))) (ds : Array Value) :
 Blks B w0 (w.setRow g ds) (l.set i (g, .cells ds t (0, 0))) := by
 have hm := h.h _ (List.mem_of_getElem? hi)
 have hnew : (w.setRow g ds).heap[g]? = some (.cells ds t (0, 0)) := setRow_heap _ _ _ _ _ _ hm.2.2
 have hsz : (w.setRow g ds).heap.size = w.heap.size := by simp [World.setRow]
 refine ⟨below_setRow h.b hm.1 _, by rw [hsz]; exact h.k, fun p hp => ?_, ?_⟩
 ·obtain ⟨j, hj, e⟩ := List.getElem_of_mem hp
  rw [List.length_set] at hj
  rw [List.getElem_set] at e
  split at e
  ·subst e; exact ⟨hm.1, by rw [hsz]; exact hm.2.1, hnew⟩
  ·next hne =>
   have hq := h.h p (by rw [← e]; exact List.getElem_mem _)
   have hpg : p.1 ≠ g := fun e1 => by
    have := h.ne j i (g := p.1) (o := p.2) (by rw [List.getElem?_eq_getElem hj, e]) hi (fun e2 => hne e2.symm)
    exact this e1
   exact ⟨hq.1, by rw [hsz]; exact hq.2.1, (setRow_other _ _ _ _ hpg).trans hq.2.2⟩
 ·rw [List.map_set]
  obtain ⟨h1, e1⟩ := List.getElem?_eq_some_iff.1 hi
  have : (l.map Prod.fst).set i g = l.map Prod.fst := by
   apply List.ext_getElem
   ·simp
   ·intro j h2 h3
    rw [List.getElem_set]
    split
    ·next e => subst e; rw [List.getElem_map, e1]
    ·rfl
  rw [this]; exact h.nd
theorem Blks.allocd {B : Nat} {w0 w : World} {l : List (Nat × Obj)} (h : Blks B w0 w l) (o : Obj) : ∃ g1 w1, w.heap.size = g1 ∧ w.alloc o = w1 ∧ Hid (Blks B w0 w1 ((g1, o) :: l)) ∧ Hid (Below w.heap.size w w1) := ⟨_, _, rfl, rfl, h.alloc o, (Below.refl _ _).alloc (Nat.le_refl _) o⟩
theorem Blks.allocdD {B : Nat} {w0 w : World} {l : List (Nat × Obj)} (h : Blks B w0 w l) (o : Obj) : ∃ g1 w1, w.heap.size = g1 ∧ (w.alloc o).drew = w1 ∧ Hid (Blks B w0 w1 ((g1, o) :: l)) ∧ Hid (Below w.heap.size w w1) := ⟨_, _, rfl, rfl, (h.alloc o).drew, ((Below.refl _ _).alloc (Nat.le_refl _) o).drew⟩
end Go.Proofs.YtbbeeajkclbaaaaDoor
