/-
  Envelopes: the walk of the reference's Join (conditions: the arguments read as envelopes within the statements' bounds).
-/
import Derived.Test.YtcligodahogpkaaGreatDoorEnvX
import Derived.Test.YtcligodahogpkaaGreatDoorEnvT
set_option maxRecDepth 100000
set_option maxHeartbeats 8000000
namespace Go.Proofs.YtcligodahogpkaaGreatDoor
open Go.RowKit Go.Proofs.YtcligodahogpkaaGreatDoor.One
theorem OR {s t : ByteArray} (h : s.toList = t.toList) : s = t := by
 rw [Lib.toList_data, Lib.toList_data] at h
 cases s; cases t; congr; exact Array.toList_inj.1 h
theorem OE {t t' : ByteArray} {b b' : List UInt8} {L M : List Pg} (h : eY t b L = false ∨ eY t' b' M = false) : jnV t t' b b' L M = EP 1 := by
 have e : jnE t t' b b' L M = 1 := by unfold jnE; rw [if_pos h]
 unfold jnV; rw [e, if_neg (by omega)]
theorem OD {t t' : ByteArray} {b b' : List UInt8} {L M : List Pg} (h1 : eY t b L = true) (h2 : eY t' b' M = true) (h : t ≠ t' ∨ b ≠ b') : jnV t t' b b' L M = EP 9 := by
 have e : jnE t t' b b' L M = 9 := by unfold jnE; rw [if_neg (by rw [h1, h2]; simp), if_pos h]
 unfold jnV; rw [e, if_neg (by omega)]
theorem jnV_3 {t : ByteArray} {b : List UInt8} {L M : List Pg} (h1 : eY t b L = true) (h2 : eY t b M = true) (h : 8 < (jnL (dQ t b) L M).length) : jnV t t b b L M = EP 3 := by
 have e : jnE t t b b L M = 3 := by unfold jnE; rw [if_neg (by rw [h1, h2]; simp), if_neg (by simp), if_pos h]
 unfold jnV; rw [e, if_neg (by omega)]
theorem jnV_0 {t : ByteArray} {b : List UInt8} {L M : List Pg} (h1 : eY t b L = true) (h2 : eY t b M = true) (h : ¬ 8 < (jnL (dQ t b) L M).length) : jnV t t b b L M = ⟨0, t, b, jnL (dQ t b) L M⟩ := by
 have e : jnE t t b b L M = 0 := by unfold jnE; rw [if_neg (by rw [h1, h2]; simp), if_neg (by simp), if_neg h]
 unfold jnV; rw [if_pos e]
structure JbX (w : World) (EA EB : Array Value) (w' : World) : Prop where
 a : w'.heap[w.heap.size]? = some (.cells EA 25 (0, 0))
 c : w'.heap[w.heap.size + 1]? = some (.cells EB 25 (0, 0))
 y : w'.heap[w.heap.size + 2]? = some (.cells zEn 25 (0, 0))
 b : Below w.heap.size w w'
 k : w.heap.size + 3 ≤ w'.heap.size
theorem JbX.new (w : World) (EA EB : Array Value) : JbX w EA EB (((w.alloc (.cells EA 25)).alloc (.cells EB 25)).alloc (.cells zEn 25)) := by
 have h1 := heap_alloc_new w (.cells EA 25)
 have h2 := heap_alloc_new (w.alloc (.cells EA 25)) (.cells EB 25)
 have h3 := heap_alloc_new ((w.alloc (.cells EA 25)).alloc (.cells EB 25)) (.cells zEn 25)
 rw [World.size_alloc] at h2
 rw [World.size_alloc, World.size_alloc] at h3
 exact ⟨(heap_alloc_old _ _ (by simp only [World.size_alloc]; omega)).trans ((heap_alloc_old _ _ (by simp)).trans h1), (heap_alloc_old _ _ (by simp)).trans h2, h3, (((Below.refl _ _).alloc (Nat.le_refl _) _).alloc (by simp) _).alloc (by simp only [World.size_alloc]; omega) _, by simp only [World.size_alloc]; omega⟩
theorem JbX.below {w : World} {EA EB : Array Value} {w1 w2 : World} (h : JbX w EA EB w1) (hb : Below w1.heap.size w1 w2) : JbX w EA EB w2 := by
 have h1 := h.k; have h2 := hb.size
 exact ⟨(hb.block _ (by omega)).trans h.a, (hb.block _ (by omega)).trans h.c, (hb.block _ (by omega)).trans h.y, h.b.trans (hb.mono (by omega)), by omega⟩
theorem JbX.belowB {w : World} {EA EB : Array Value} {w1 w2 : World} {D : Nat} (h : JbX w EA EB w1) (hb : Below D w1 w2) (hD : w.heap.size + 3 ≤ D) : JbX w EA EB w2 := by
 have h1 := h.k; have h2 := hb.size
 exact ⟨(hb.block _ (by omega)).trans h.a, (hb.block _ (by omega)).trans h.c, (hb.block _ (by omega)).trans h.y, h.b.trans (hb.mono (by omega)), by omega⟩
structure JrS (w : World) (EA EB : Array Value) (t : ByteArray) (P : Value) (go D : Nat) (s : Value) (l l1 l2 : List Sg) (wr : World) : Prop where
 j : JbX w EA EB wr
 o : wr.heap[go]? = some (.cells (enA t P s) 25 (0, 0))
 g : OwnG wr D s l
 m : ∀ y ∈ l, y ∈ l1 ∨ y ∈ l2
 k : D ≤ wr.heap.size
theorem JrS.below {w : World} {EA EB : Array Value} {t : ByteArray} {P : Value} {go D : Nat} {s : Value} {l l1 l2 : List Sg} {wr w2 : World} (h : JrS w EA EB t P go D s l l1 l2 wr) (hb : Below wr.heap.size wr w2) (hg : go < D) : JrS w EA EB t P go D s l l1 l2 w2 :=
 ⟨h.j.below hb, (hb.block _ (by have := h.k; omega)).trans h.o, h.g.below hb, h.m, Nat.le_trans h.k hb.size⟩
theorem JrS.of {w : World} {EA EB : Array Value} {t : ByteArray} {P s s' : Value} {go D : Nat} {l' l1 l2 : List Sg} {wr : World} (hj : JbX w EA EB wr) (ho : wr.heap[go]? = some (.cells (enA t P s) 25 (0, 0))) (hD : D ≤ wr.heap.size) (hg : OwnG wr D s' l') (hm : ∀ y ∈ l', y ∈ l1 ∨ y ∈ l2) (hgo : w.heap.size + 3 ≤ go) : JrS w EA EB t P go D s' l' l1 l2 (wr.setCell ⟨go, 2, none⟩ s') := by
 have h2 := heap_setCell_same wr go 2 _ _ s' ho
 rw [qU] at h2
 have hle := eF wr ⟨go, 2, none⟩ s'
 have hk := hj.k
 exact ⟨⟨(heap_setCell_other wr ⟨go, 2, none⟩ _ _ (by show w.heap.size ≠ go; omega)).trans hj.a, (heap_setCell_other wr ⟨go, 2, none⟩ _ _ (by show w.heap.size + 1 ≠ go; omega)).trans hj.c, (heap_setCell_other wr ⟨go, 2, none⟩ _ _ (by show w.heap.size + 2 ≠ go; omega)).trans hj.y, hj.b.setCell (p := ⟨go, 2, none⟩) (by show w.heap.size ≤ go; omega) _, by omega⟩, h2, ⟨World.ownsRow.kept hg.1 (aQ _ _ _ _) (cF hg.1 ho (by decide)), hg.2⟩, hm, Nat.le_trans hD hle⟩
theorem JrS.setS {w : World} {EA EB : Array Value} {t : ByteArray} {P s s' : Value} {go D : Nat} {l l' l1 l2 : List Sg} {wr : World} (h : JrS w EA EB t P go D s l l1 l2 wr) (hg : OwnG wr D s' l') (hm : ∀ y ∈ l', y ∈ l1 ∨ y ∈ l2) (hgo : w.heap.size + 3 ≤ go) : JrS w EA EB t P go D s' l' l1 l2 (wr.setCell ⟨go, 2, none⟩ s') := JrS.of h.j h.o h.k hg hm hgo
theorem OwnG.setW {w : World} {D gS n cap : Nat} {l : List Sg} (h : OwnG w D (.slice (some ⟨gS, 0, none⟩) n cap) l) (hn : l.length = n) {k : Nat} (hk : k < n) {x' : Sg} (hr : OkG x') : OwnG (w.setCells gS (k * 20) (bD x')) D (.slice (some ⟨gS, 0, none⟩) n cap) (l.set k x') := by
 have ho := h.1
 rw [hn] at ho
 have hkl : k < l.length := by omega
 have hlen : (aS (l.take k)).length = k * 20 := by
  have := iR bD 20 (l.take k) (fun z hz => aG (h.2 z (List.mem_of_mem_take hz)))
  rw [List.length_take, Nat.min_eq_left (by omega)] at this
  exact this
 have e1 : aS l = aS (l.take k) ++ (bD l[k] ++ aS (l.drop (k + 1))) := by
  have : l = l.take k ++ l[k] :: l.drop (k + 1) := by rw [List.getElem_cons_drop, List.take_append_drop]
  conv => lhs; rw [this]
  rw [dI]; rfl
 have e2 : aS (l.set k x') = aS (l.take k) ++ (bD x' ++ aS (l.drop (k + 1))) := by
  rw [List.set_eq_take_append_cons_drop, if_pos hkl, dI]; rfl
 have h1 := nV (bD x') (k * 20) w _ ho
 rw [e1, ← hlen, nU _ _ _ _ (by rw [aG hr, aG (h.2 _ (List.getElem_mem _))]), ← e2, hlen] at h1
 refine ⟨by rw [List.length_set, hn]; exact h1, fun y hy => ?_⟩
 rcases List.mem_or_eq_of_mem_set hy with h2 | rfl
 ·exact h.2 y h2
 ·exact hr
end Go.Proofs.YtcligodahogpkaaGreatDoor
