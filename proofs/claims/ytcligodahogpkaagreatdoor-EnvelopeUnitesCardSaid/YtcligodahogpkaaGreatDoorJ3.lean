/-
  Envelopes in pairs; the boxes of a statement about Join; how large what Join answers is (conditions in each lemma).
-/
import Derived.Test.YtcligodahogpkaaGreatDoorKeyRe
import Derived.Test.YtcligodahogpkaaGreatDoorEnvZ
set_option maxRecDepth 100000
set_option maxHeartbeats 8000000
namespace Go.Proofs.YtcligodahogpkaaGreatDoor
open Go.RowKit Go.Proofs.YtcligodahogpkaaGreatDoor.One
theorem CP {d : List Int} : ∀ {M L : List Pg} {z : Pg}, z ∈ jnL d L M → z ∈ L ∨ z ∈ M
 | [], _, _, h => .inl h
 | x :: M, L, z, h => by
   rcases CP (M := M) (L := jnS d L x) (z := z) h with h | h
   ·rcases LH h with h | rfl
    ·exact .inl h
    ·exact .inr (List.mem_cons_self ..)
   ·exact .inr (List.mem_cons_of_mem _ h)
theorem wJ {d : List Int} : ∀ {M L : List Pg}, (jnL d L M).length ≤ L.length + M.length
 | [], _ => Nat.le_refl _
 | x :: M, L => by
   have h1 := wJ (d := d) (M := M) (L := jnS d L x)
   have h2 := (LI (d := d) (L := L) (x := x)).2
   show (jnL d (jnS d L x) M).length ≤ _
   rw [List.length_cons]; omega
structure EvS where
 t : ByteArray
 sp : Option Addr
 n : Nat
 cap : Nat
 b : List UInt8
 sq : Option Addr
 m : Nat
 cq : Nat
 l : List Sg
def EvS.L (x : EvS) : List Value := enL x.t (.slice x.sp x.n x.cap) (.slice x.sq x.m x.cq)
def EvS.ok (x : EvS) (w : World) : Prop := EvX w x.t x.sp x.n x.cap x.b x.sq x.m x.cq x.l
theorem EvS.ok.below {x : EvS} {w w' : World} (h : x.ok w) (hb : Below w.heap.size w w') : x.ok w' := EvX.below h hb
def MdT (w : World) (e : Ending) (w' : World) : Prop := (∃ x : EvS, e = .returned (.agg x.L.toArray) ∧ x.ok w') ∧ Below w.heap.size w w'
theorem MdX.T {w w' : World} {e : Ending} (h : MdX w e w') : MdT w e w' := by
 obtain ⟨⟨t, sp, n, cap, b, sq, m, cq, l, rfl, hx⟩, hb⟩ := h
 exact ⟨⟨⟨t, sp, n, cap, b, sq, m, cq, l⟩, rfl, hx⟩, hb⟩
theorem rT (x : EvS) : (Tryz.prog.info? 25).map (·.size) = some x.L.length := mL _ _ _
structure EvP (w : World) (g : Nat) : Prop where
 e : ∀ k, k < 3 → ∃ x y : EvS, x.ok w ∧ y.ok w ∧ w.rangeAt g (k * 6) (x.L ++ y.L)
 g : g < w.heap.size
theorem EvP.below {w w' : World} {g : Nat} (h : EvP w g) (hb : Below w.heap.size w w') : EvP w' g :=
 ⟨fun k hk => by
  obtain ⟨x, y, hx, hy, hr⟩ := h.e k hk
  exact ⟨x, y, hx.below hb, hy.below hb, aA hr hb h.g⟩, Nat.lt_of_lt_of_le h.g hb.size⟩
theorem EvP.of {w : World} {g : Nat} {a b c d e f : EvS}
 (hg : w.heap[g]? = some (.cells ((a.L ++ b.L) ++ ((c.L ++ d.L) ++ (e.L ++ f.L))).toArray 30 (0, 0)))
 (ha : a.ok w) (hb : b.ok w) (hc : c.ok w) (hd : d.ok w) (he : e.ok w) (hf : f.ok w) : EvP w g :=
 ⟨fun k hk => by
  rcases k with _ | _ | _ | k
  ·exact ⟨a, b, ha, hb, dP (pre := []) (post := (c.L ++ d.L) ++ (e.L ++ f.L)) hg rfl rfl⟩
  ·exact ⟨c, d, hc, hd, dP (pre := a.L ++ b.L) (post := e.L ++ f.L) hg (by simp only [List.append_assoc]) rfl⟩
  ·exact ⟨e, f, he, hf, dP (pre := (a.L ++ b.L) ++ (c.L ++ d.L)) (post := []) hg (by simp only [List.append_assoc, List.append_nil]) rfl⟩
  ·omega, (Array.getElem?_eq_some_iff.1 hg).1⟩
structure JB3 (w : World) (EA CC DC : Array Value) (w' : World) : Prop where
 e : w'.heap[w.heap.size]? = some (.cells EA 25 (0, 0))
 c : w'.heap[w.heap.size + 1]? = some (.cells CC 27 (0, 0))
 d : w'.heap[w.heap.size + 2]? = some (.cells DC 27 (0, 0))
 b : Below w.heap.size w w'
 k : w.heap.size + 3 ≤ w'.heap.size
theorem JB3.new (w : World) (EA CC DC : Array Value) : JB3 w EA CC DC (((w.alloc (.cells EA 25)).alloc (.cells CC 27)).alloc (.cells DC 27)) := by
 have h1 := heap_alloc_new w (.cells EA 25)
 have h2 := heap_alloc_new (w.alloc (.cells EA 25)) (.cells CC 27)
 have h3 := heap_alloc_new ((w.alloc (.cells EA 25)).alloc (.cells CC 27)) (.cells DC 27)
 rw [World.size_alloc] at h2
 rw [World.size_alloc, World.size_alloc] at h3
 exact ⟨(heap_alloc_old _ _ (by simp only [World.size_alloc]; omega)).trans ((heap_alloc_old _ _ (by simp)).trans h1), (heap_alloc_old _ _ (by simp)).trans h2, h3, (((Below.refl _ _).alloc (Nat.le_refl _) _).alloc (by simp) _).alloc (by simp only [World.size_alloc]; omega) _, by simp only [World.size_alloc]; omega⟩
theorem JB3.below {w : World} {EA CC DC : Array Value} {w1 w2 : World} (h : JB3 w EA CC DC w1) (hb : Below w1.heap.size w1 w2) : JB3 w EA CC DC w2 := by
 have h1 := h.k; have h2 := hb.size
 exact ⟨(hb.block _ (by omega)).trans h.e, (hb.block _ (by omega)).trans h.c, (hb.block _ (by omega)).trans h.d, h.b.trans (hb.mono (by omega)), by omega⟩
theorem JB3.setP {w : World} {EA CC : Array Value} {p s p' : Value} {k y : Int} {w1 : World} (hh : JB3 w EA CC (caA p s k y) w1) : JB3 w EA CC (caA p' s k y) (w1.setCell ⟨w.heap.size + 2, 0, none⟩ p') :=
 ⟨(heap_setCell_other _ _ _ _ (by show w.heap.size ≠ w.heap.size + 2; omega)).trans hh.e, (heap_setCell_other _ _ _ _ (by show w.heap.size + 1 ≠ w.heap.size + 2; omega)).trans hh.c, by rw [heap_setCell_same _ _ _ _ _ _ hh.d]; rfl, hh.b.setCell (by show w.heap.size ≤ w.heap.size + 2; omega) _, Nat.le_trans hh.k (eF _ _ _)⟩
end Go.Proofs.YtcligodahogpkaaGreatDoor
