/-
  Keys of many one-time keys, plain: the nodes of a tree, the neighbours on a leaf's way, and what a signature's path leads to.
-/
import Derived.Test.YtcligodahogpkaaGreatDoorZip
import Derived.Test.YtcligodahogpkaaGreatDoorOneV
import Derived.Deep.Cut
set_option maxRecDepth 100000
set_option maxHeartbeats 8000000
namespace Go.Proofs.YtcligodahogpkaaGreatDoor
open Go.RowKit Go.Proofs.YtcligodahogpkaaGreatDoor.One
def eZ (level index : Int) (a b : List Int) : List Int := hfB ([6, level % 256, lb1 index, lb0 index] ++ a ++ b)
theorem bO (level index : Int) (a b : List Int) : H16 (eZ level index a b) := jB _
def iO (x : List Int) : Nat → Nat → List Int
 | 0, i => EO x (i : Int)
 | k + 1, i => eZ (k : Int) (i : Int) (iO x k (2 * i)) (iO x k (2 * i + 1))
theorem fX (x : List Int) (k i : Nat) : H16 (iO x k i) := by
 cases k with
 | zero => exact fI _ _
 | succ k => exact bO _ _ _ _
def nb (i : Nat) : Nat := if i % 2 = 1 then i - 1 else i + 1
def iY (x : List Int) (h k : Nat) : List (List Int) := (List.range (2 ^ (h - k))).map (iO x k)
def dW (x : List Int) (leaf k : Nat) : List Int := iO x k (nb (leaf / 2 ^ k))
def dM (x : List Int) (h leaf : Nat) : List (List Int) := (List.range h).map (dW x leaf)
def pZ (p : List (List Int)) (s : List Int) (leaf : Nat) : Nat → List Int
 | 0 => s
 | k + 1 => if leaf / 2 ^ k % 2 = 1 then eZ (k : Int) ((leaf / 2 ^ k / 2 : Nat) : Int) (p.getD k []) (pZ p s leaf k) else eZ (k : Int) ((leaf / 2 ^ k / 2 : Nat) : Int) (pZ p s leaf k) (p.getD k [])
theorem rC {p : List (List Int)} {s : List Int} (hs : H16 s) (leaf k : Nat) : H16 (pZ p s leaf k) := by
 cases k with
 | zero => exact hs
 | succ k => unfold pZ; split <;> exact bO _ _ _ _
theorem sQ (p : List (List Int)) (s : List Int) (leaf k : Nat) : pZ p s leaf (k + 1) = if leaf / 2 ^ k % 2 = 1 then eZ (k : Int) ((leaf / 2 ^ k / 2 : Nat) : Int) (p.getD k []) (pZ p s leaf k) else eZ (k : Int) ((leaf / 2 ^ k / 2 : Nat) : Int) (pZ p s leaf k) (p.getD k []) := rfl
theorem tS (x : List Int) (k i : Nat) : iO x (k + 1) i = eZ (k : Int) (i : Int) (iO x k (2 * i)) (iO x k (2 * i + 1)) := rfl
theorem oZ (leaf k : Nat) : leaf / 2 ^ (k + 1) = leaf / 2 ^ k / 2 := by rw [Nat.pow_succ, Nat.div_div_eq_div_mul]
theorem sR {x : List Int} {p : List (List Int)} {leaf h : Nat} (hp : ∀ k, k < h → p.getD k [] = dW x leaf k) : ∀ k, k ≤ h → pZ p (iO x 0 leaf) leaf k = iO x k (leaf / 2 ^ k)
 | 0, _ => by simp [pZ]
 | k + 1, hk => by
   have ih := sR hp k (by omega)
   rw [oZ]
   rw [sQ, tS, ih, hp k (by omega)]
   unfold dW nb
   generalize leaf / 2 ^ k = i
   by_cases e : i % 2 = 1
   ·rw [if_pos e, if_pos e, show 2 * (i / 2) = i - 1 by omega, show i - 1 + 1 = i by omega]
   ·rw [if_neg e, if_neg e, show 2 * (i / 2) = i by omega]
theorem FQ (x : List Int) {h leaf k : Nat} (hk : k < h) : (dM x h leaf).getD k [] = dW x leaf k := by
 unfold dM; simp [List.getD_eq_getElem?_getD, hk]
theorem ET (x : List Int) {h leaf : Nat} (hl : leaf < 2 ^ h) : pZ (dM x h leaf) (iO x 0 leaf) leaf h = iO x h 0 := by
 rw [sR (h := h) (fun k hk => FQ x hk) h (Nat.le_refl _), Nat.div_eq_of_lt hl]
theorem lE (g : Nat) (t : TypeId) : ∀ (vs : List Value) (o : Nat) (w : World) (cur : Array Value), w.heap[g]? = some (.cells cur t (0, 0)) → ∃ cur', (w.setCells g o vs).heap[g]? = some (.cells cur' t (0, 0)) ∧ cur'.size = cur.size
 | [], _, _, cur, hg => ⟨cur, hg, rfl⟩
 | v :: r, o, w, cur, hg => by
   obtain ⟨cur', h2, h3⟩ := lE g t r (o + 1) (w.setCell ⟨g, o, none⟩ v) _ (heap_setCell_same w g o cur t v hg)
   exact ⟨cur', h2, by rw [h3]; simp⟩
theorem tD : ∀ (l : List (List Int)), (∀ x ∈ l, H16 x) → (jJ l).length = l.length * 16
 | [], _ => rfl
 | x :: t, h => by
   have h1 := tD t (fun y hy => h y (by simp [hy]))
   unfold jJ at h1 ⊢
   rw [List.flatMap_cons, List.length_append, h1, List.length_map, (h x (by simp)).1, List.length_cons]; omega
structure TabIn (w : World) (g n k : Nat) (E : Nat → List Int) : Prop where
 got : ∀ i, i < k → w.rangeAt g (i * 16) ((E i).map (Value.int .u8))
 room : w.there g 0 (n * 16)
 typ : ∃ cur, w.heap[g]? = some (.cells cur 54 (0, 0)) ∧ cur.size = n * 16
theorem TabIn.lt {w : World} {g n k : Nat} {E : Nat → List Int} (h : TabIn w g n k E) : g < w.heap.size := by obtain ⟨cur, h1, _⟩ := h.typ; exact (Array.getElem?_eq_some_iff.1 h1).1
theorem TabIn.below {w w' : World} {g n k B : Nat} {E : Nat → List Int} (h : TabIn w g n k E) (hb : Below B w w') (hg : g < B) : TabIn w' g n k E :=
 ⟨fun i hi => aA (h.got i hi) hb hg, jM h.room hb hg, by obtain ⟨cur, h1, h2⟩ := h.typ; exact ⟨cur, (hb.block g hg).trans h1, h2⟩⟩
theorem TabIn.at_ {w : World} {g n k : Nat} {E : Nat → List Int} (h : TabIn w g n k E) (hk : k < n) : w.there g (k * 16) 16 := fun j hj => by
 have := h.room (k * 16 + j) (by omega)
 rw [Nat.zero_add] at this
 exact this
theorem TabIn.put {w : World} {g n k : Nat} {E : Nat → List Int} (h : TabIn w g n k E) (hE : ∀ i, H16 (E i)) (hk : k < n) : TabIn (w.setCells g (k * 16) ((E k).map (Value.int .u8))) g n (k + 1) E := by
 have hl : ∀ i, ((E i).map (Value.int .u8)).length = 16 := fun i => by rw [List.length_map, (hE i).1]
 refine ⟨fun i hi => ?_, World.there_setCells h.room _ _ _, ?_⟩
 ·by_cases e : i = k
  ·subst e
   refine World.rangeAt_setCells_same _ _ _ _ ?_
   rw [hl]; exact h.at_ hk
  ·exact World.rangeAt_setCells_apart (h.got i (by omega)) _ _ _ (Or.inr (by rw [hl i, hl k]; omega))
 ·obtain ⟨cur, h1, h2⟩ := h.typ
  obtain ⟨cur', h3, h4⟩ := lE g _ _ (k * 16) w cur h1
  exact ⟨cur', h3, by rw [h4, h2]⟩
theorem TabIn.own {w : World} {base g n : Nat} {xs : List Value} {E : Nat → List Int} (h : w.ownsRow base 54 16 (.slice (some ⟨g, 0, none⟩) n n) n xs) (hl : xs.length = n * 16) : TabIn w g n 0 E := by
 obtain ⟨h0, h | ⟨g', c, cur, e, hg, h1, h2, h3, h4, h5⟩⟩ := h
 ·have e := h.1; simp at e
 ·simp only [Value.slice.injEq, Option.some.injEq, Addr.mk.injEq] at e
  obtain ⟨⟨rfl, _, _⟩, _, rfl⟩ := e
  refine ⟨fun i hi => absurd hi (by omega), fun j hj => ?_, cur, h1, h4⟩
  rw [Nat.zero_add]
  refine ⟨?_, frozen_of_row _ _ _ _ _ h1⟩
  rw [cell_of_row _ g j _ _ _ h1, Array.getElem?_eq_getElem (by omega)]; rfl
theorem TabIn.ownHv {w : World} {base g n : Nat} {E : Nat → List Int} (h : TabIn w g n n E) (hE : ∀ i, H16 (E i)) (hb : base ≤ g) (hn : n ≤ 1000000) : OwnHv w base (.slice (some ⟨g, 0, none⟩) n n) ((List.range n).map E) := by
 have hm : ∀ x ∈ (List.range n).map E, H16 x := fun x hx => by obtain ⟨i, _, rfl⟩ := List.mem_map.1 hx; exact hE i
 have hl : ∀ x ∈ (List.range n).map E, (x.map (Value.int .u8)).length = 16 := fun x hx => by rw [List.length_map, (hm x hx).1]
 refine ⟨?_, hm⟩
 obtain ⟨cur, h1, h2⟩ := h.typ
 have hlen : (jJ ((List.range n).map E)).length = n * 16 := by
  rw [tD _ hm, List.length_map, List.length_range]
 rw [show ((List.range n).map E).length = n by simp]
 refine ⟨hlen, .inr ⟨g, n, cur, rfl, hb, h1, Nat.le_refl _, by unfold maxLen; omega, h2, ?_⟩⟩
 rw [List.take_of_length_le (by rw [Array.length_toList, h2]; exact Nat.le_refl _)]
 apply List.ext_getElem?
 intro j
 by_cases hj : j < n * 16
 ·have hi : j / 16 < n := by omega
  have hr : j % 16 < 16 := by omega
  have ej : j / 16 * 16 + j % 16 = j := by omega
  have hx : ((E (j / 16)).map (Value.int .u8))[j % 16]? = some (((E (j / 16)).map (Value.int .u8))[j % 16]'(by rw [List.length_map, (hE _).1]; exact hr)) := List.getElem?_eq_getElem _
  have hc := h.got (j / 16) hi (j % 16) _ hx
  rw [cell_of_row _ g _ _ _ _ h1, ej] at hc
  have hf := oB (fun d : List Int => d.map (Value.int .u8)) 16 ((List.range n).map E) hl (j / 16) (E (j / 16)) (by simp [hi]) (j % 16) _ hx
  rw [ej] at hf
  unfold jJ
  rw [hf, Array.getElem?_toList, hc]
 ·rw [List.getElem?_eq_none (by rw [Array.length_toList, h2]; omega), List.getElem?_eq_none (by rw [hlen]; omega)]
theorem iD (b : Nat) : ∀ (vs : List Value) (o : Nat) (w : World), (w.setCells b o vs).heap.size = w.heap.size
 | [], _, _ => rfl
 | v :: r, o, w => by rw [World.setCells, iD b r]; simp
theorem EY (F : FuncId) (p0 n : Nat) (E : Nat → List Int) (w : World) (hE : ∀ i, H16 (E i)) (hn : n ≤ 1000000) (eg : ∀ args w, (callFunc F args).run Tryz.prog w = .ok (.enter F args) w)
 (hC : ∀ k, k < n → ∀ w' : World, Below w.heap.size w w' → Calls Tryz.prog F #[.int .i64 (k : Int), .pointer (some ⟨p0, 0, none⟩)] w' fun e w'' => e = .returned (.agg (hvA (E k))) ∧ Below w'.heap.size w' w'') :
 Calls Tryz.prog 140 #[.int .i64 n, .func (.func F) #[] #[.pointer (some ⟨p0, 0, none⟩)]] w fun e w' => e = .returned (.slice (some ⟨w.heap.size, 0, none⟩) n n) ∧ OwnHv w' w.heap.size (.slice (some ⟨w.heap.size, 0, none⟩) n n) ((List.range n).map E) ∧ Below w.heap.size w w' := by
 have HE := zh hE; have HC := zh hC; clear hE hC
 obtain ⟨i0, hi0, hz0, hz1, hz2⟩ := bF qQ
 have HI0 := zh hi0; have HZ0 := zh hz0; have HZ1 := zh hz1; have HZ2 := zh hz2
 clear hi0 hz0 hz1 hz2
 go_enter Tryz.func140, Tryz.ntmps140
 go_wp2_with (refine wpList_make_full _ rfl _ _ 58 rfl w.heap.size 54 i0 _ 16 Tryz.underlying58 HI0.out HZ0.out HZ1.out .i64 .i64 _ _ n rfl rfl rfl rfl (by rw [HZ2.out]; omega) (by unfold maxLen; omega) (Nat.le_refl _) ?_; intro w1 hown1 hg1; have HT1 : Hid (TabIn w1 w.heap.size n 0 E) := TabIn.own hown1 (by simp [madeCells]); have HB1 : Hid (Below w.heap.size w w1) := (Below.refl _ w).grown hg1 (Nat.le_refl _) (fun k e => by cases e); have hs1 : w.heap.size < w1.heap.size := (hown1.lt _ rfl).2; clear hown1 hg1)
 go_loopw [11] (fun i wr => ∃ k : Nat, k ≤ n ∧ i = .int .i64 k ∧ Hid (TabIn wr w.heap.size n k E) ∧ Hid (Below w.heap.size w wr) ∧ w.heap.size < wr.heap.size) (fun i _ => n - (intOf i).toNat)
 case atStart => exact ⟨0, by omega, rfl, HT1.out, HB1.out, hs1⟩
 case round =>
  clear HT1 HB1 hs1
  obtain ⟨k, hk, rfl, HT, HB, hs⟩ := hrel
  by_cases hlt : k < n
  ·have hd1 : decide ((k : Int) < (n : Int)) = true := by simp; omega
   have p1 : (0 : Int) ≤ (k : Int) := by omega
   have p2 : (k : Int) < (n : Int) := by omega
   have HCK := zh (HC.out k hlt wr HB.out)
   go_wp2_with fail
   refine HCK.out.mono ?_
   rintro e w5 ⟨rfl, hb5⟩
   have HB5 := zh hb5; clear hb5
   have HT5 : Hid (TabIn w5 w.heap.size n k E) := HT.out.below HB5.out hs
   have hs5 : w.heap.size < w5.heap.size := by have := HB5.out.size; omega
   have HSE : Hid ((hvA (E k)).size = 16) := by show _ = _; simp [hvA, (HE.out k).1]
   go_wp2_with (refine wpList_store_mid rfl 54 _ _ rfl w.heap.size (k * 16) (hvA (E k)) rfl rfl (by rw [HSE.out]; exact HT5.out.at_ hlt) (aN (HE.out k)) (dG _) ?_; generalize hw7 : World.setCells w5 _ _ _ = w7; have HT7 : Hid (TabIn w7 w.heap.size n (k + 1) E) := (by rw [← hw7]; exact HT5.out.put HE.out hlt); have HB7 : Hid (Below w.heap.size w w7) := (by rw [← hw7]; exact dY (Nat.le_refl _) _ _ _ (HB.out.trans (HB5.out.mono (by omega)))); have hs7 : w.heap.size < w7.heap.size := (by rw [← hw7, iD]; exact hs5); clear hw7)
   go_roundw
   case rel => exact ⟨k + 1, by omega, by go_num, HT7, HB7, hs7⟩
   case measure => simp [intOf]; omega
  ·obtain rfl : k = n := by omega
   have hd1 : decide ((k : Int) < (k : Int)) = false := by simp
   go_wp2_with fail
   go_ret
   exact ⟨rfl, HT.out.ownHv HE.out (Nat.le_refl _) hn, HB.out⟩
theorem xD (F : FuncId) (p0 p1 n : Nat) (E : Nat → List Int) (w : World) (hE : ∀ i, H16 (E i)) (hn : n ≤ 1000000) (eg : ∀ args w, (callFunc F args).run Tryz.prog w = .ok (.enter F args) w)
 (hC : ∀ k, k < n → ∀ w' : World, Below w.heap.size w w' → Calls Tryz.prog F #[.int .i64 (k : Int), .pointer (some ⟨p0, 0, none⟩), .pointer (some ⟨p1, 0, none⟩)] w' fun e w'' => e = .returned (.agg (hvA (E k))) ∧ Below w'.heap.size w' w'') :
 Calls Tryz.prog 140 #[.int .i64 n, .func (.func F) #[] #[.pointer (some ⟨p0, 0, none⟩), .pointer (some ⟨p1, 0, none⟩)]] w fun e w' => e = .returned (.slice (some ⟨w.heap.size, 0, none⟩) n n) ∧ OwnHv w' w.heap.size (.slice (some ⟨w.heap.size, 0, none⟩) n n) ((List.range n).map E) ∧ Below w.heap.size w w' := by
 have HE := zh hE; have HC := zh hC; clear hE hC
 obtain ⟨i0, hi0, hz0, hz1, hz2⟩ := bF qQ
 have HI0 := zh hi0; have HZ0 := zh hz0; have HZ1 := zh hz1; have HZ2 := zh hz2
 clear hi0 hz0 hz1 hz2
 go_enter Tryz.func140, Tryz.ntmps140
 go_wp2_with (refine wpList_make_full _ rfl _ _ 58 rfl w.heap.size 54 i0 _ 16 Tryz.underlying58 HI0.out HZ0.out HZ1.out .i64 .i64 _ _ n rfl rfl rfl rfl (by rw [HZ2.out]; omega) (by unfold maxLen; omega) (Nat.le_refl _) ?_; intro w1 hown1 hg1; have HT1 : Hid (TabIn w1 w.heap.size n 0 E) := TabIn.own hown1 (by simp [madeCells]); have HB1 : Hid (Below w.heap.size w w1) := (Below.refl _ w).grown hg1 (Nat.le_refl _) (fun k e => by cases e); have hs1 : w.heap.size < w1.heap.size := (hown1.lt _ rfl).2; clear hown1 hg1)
 go_loopw [11] (fun i wr => ∃ k : Nat, k ≤ n ∧ i = .int .i64 k ∧ Hid (TabIn wr w.heap.size n k E) ∧ Hid (Below w.heap.size w wr) ∧ w.heap.size < wr.heap.size) (fun i _ => n - (intOf i).toNat)
 case atStart => exact ⟨0, by omega, rfl, HT1.out, HB1.out, hs1⟩
 case round =>
  clear HT1 HB1 hs1
  obtain ⟨k, hk, rfl, HT, HB, hs⟩ := hrel
  by_cases hlt : k < n
  ·have hd1 : decide ((k : Int) < (n : Int)) = true := by simp; omega
   have p1 : (0 : Int) ≤ (k : Int) := by omega
   have p2 : (k : Int) < (n : Int) := by omega
   have HCK := zh (HC.out k hlt wr HB.out)
   go_wp2_with fail
   refine HCK.out.mono ?_
   rintro e w5 ⟨rfl, hb5⟩
   have HB5 := zh hb5; clear hb5
   have HT5 : Hid (TabIn w5 w.heap.size n k E) := HT.out.below HB5.out hs
   have hs5 : w.heap.size < w5.heap.size := by have := HB5.out.size; omega
   have HSE : Hid ((hvA (E k)).size = 16) := by show _ = _; simp [hvA, (HE.out k).1]
   go_wp2_with (refine wpList_store_mid rfl 54 _ _ rfl w.heap.size (k * 16) (hvA (E k)) rfl rfl (by rw [HSE.out]; exact HT5.out.at_ hlt) (aN (HE.out k)) (dG _) ?_; generalize hw7 : World.setCells w5 _ _ _ = w7; have HT7 : Hid (TabIn w7 w.heap.size n (k + 1) E) := (by rw [← hw7]; exact HT5.out.put HE.out hlt); have HB7 : Hid (Below w.heap.size w w7) := (by rw [← hw7]; exact dY (Nat.le_refl _) _ _ _ (HB.out.trans (HB5.out.mono (by omega)))); have hs7 : w.heap.size < w7.heap.size := (by rw [← hw7, iD]; exact hs5); clear hw7)
   go_roundw
   case rel => exact ⟨k + 1, by omega, by go_num, HT7, HB7, hs7⟩
   case measure => simp [intOf]; omega
  ·obtain rfl : k = n := by omega
   have hd1 : decide ((k : Int) < (k : Int)) = false := by simp
   go_wp2_with fail
   go_ret
   exact ⟨rfl, HT.out.ownHv HE.out (Nat.le_refl _) hn, HB.out⟩
def sL (level index : Int) : List Int := [6, level % 256, lb1 index, lb0 index]
theorem xC (level index : Int) : Byt (sL level index) := fun y hy => by
 simp only [sL, lb1, lb0, List.mem_cons, List.not_mem_nil, or_false] at hy
 rcases hy with rfl | rfl | rfl | rfl <;> omega
structure ThreeH (w : World) (x y : List Int) (w0 : World) : Prop where
 x : RowIn w0 w.heap.size 54 .u8 x
 y : RowIn w0 (w.heap.size + 1) 54 .u8 y
 z : w0.heap[w.heap.size + 2]? = some (.cells (Array.replicate 16 (Value.int .u8 0)) 54 (0, 0))
 b : Below w.heap.size w w0
 s : w0.heap.size = w.heap.size + 3
theorem ThreeH.new (w : World) (x y : List Int) : ThreeH w x y (((w.alloc (.cells (hvA x) 54)).alloc (.cells (hvA y) 54)).alloc (.cells (Array.replicate 16 (Value.int .u8 0)) 54)) := by
 have r1 := RowB.new w 54 x
 have e1 : w.alloc (.cells (x.map (Value.int .u8)).toArray 54) = w.alloc (.cells (hvA x) 54) := rfl
 rw [e1] at r1
 generalize w.alloc (.cells (hvA x) 54) = w1 at *
 have h := Two.new w1 y
 generalize (w1.alloc (.cells (hvA y) 54)).alloc (.cells (Array.replicate 16 (Value.int .u8 0)) 54) = w2 at *
 have s1 := r1.s
 have hx := h.x; have hz := h.z; have hs := h.s
 rw [s1] at hx hz hs
 exact ⟨r1.r.below h.b (by omega), hx, hz, r1.b.trans (h.b.mono (by omega)), by omega⟩
theorem yY (level index : Int) (x y : List Int) (w : World) (bt bx by_ : Nat) (h1 : RowIn w bt 5 .u8 (sL level index)) (h2 : RowIn w bx 54 .u8 x) (h3 : RowIn w by_ 54 .u8 y)
 (l1 : bt < w.heap.size) (l2 : bx < w.heap.size) (l3 : by_ < w.heap.size) (hx : H16 x) (hy : H16 y) (hk : KayIn w) (hk0 : 1 < w.heap.size) :
 Calls Tryz.prog 132 #[.slice (some ⟨w.heap.size, 0, none⟩) 3 3] (w.alloc (.cells #[.slice (some ⟨bt, 0, none⟩) 4 4, .slice (some ⟨bx, 0, none⟩) 16 16, .slice (some ⟨by_, 0, none⟩) 16 16] 22)) fun e w' => e = .returned (.agg (hvA (eZ level index x y))) ∧ Below w.heap.size w w' := by
 have h := OL [⟨some ⟨bt, 0, none⟩, 4, 4, sL level index⟩, ⟨some ⟨bx, 0, none⟩, 16, 16, x⟩, ⟨some ⟨by_, 0, none⟩, 16, 16, y⟩] w (by
  intro q hq
  simp only [List.mem_cons, List.not_mem_nil, or_false] at hq
  rcases hq with rfl | rfl | rfl
  ·exact bZ (L := sL level index) (cap := 4) h1 (xC _ _) l1 (Nat.le_refl _)
  ·have := bZ (cap := 16) h2 hx.2 l2 (by rw [hx.1]; exact Nat.le_refl _); rw [hx.1] at this; exact this
  ·have := bZ (cap := 16) h3 hy.2 l3 (by rw [hy.1]; exact Nat.le_refl _); rw [hy.1] at this; exact this) hk hk0 (by simp only [cat, sL, List.map_cons, List.map_nil, List.flatten_cons, List.flatten_nil, List.length_append, List.length_cons, List.length_nil]; rw [hx.1, hy.1]; omega) (show 3 ≤ 1099511627776 by omega)
 have e : cat [⟨some ⟨bt, 0, none⟩, 4, 4, sL level index⟩, ⟨some ⟨bx, 0, none⟩, 16, 16, x⟩, ⟨some ⟨by_, 0, none⟩, 16, 16, y⟩] = [6, level % 256, lb1 index, lb0 index] ++ x ++ y := by simp [cat, sL]
 rw [e] at h
 exact h
theorem vN (level index : Int) (x y : List Int) (w : World) (bt bx by_ : Nat) (h1 : RowIn w bt 5 .u8 (sL level index)) (h2 : RowIn w bx 54 .u8 x) (h3 : RowIn w by_ 54 .u8 y)
 (l1 : bt < w.heap.size) (l2 : bx < w.heap.size) (l3 : by_ < w.heap.size) (hx : H16 x) (hy : H16 y) :
 Calls Tryz.prog 138 #[.slice (some ⟨w.heap.size, 0, none⟩) 3 3] (w.alloc (.cells #[.slice (some ⟨bt, 0, none⟩) 4 4, .slice (some ⟨bx, 0, none⟩) 16 16, .slice (some ⟨by_, 0, none⟩) 16 16] 22)) fun e w' => e = .returned (.agg (hvA (eZ level index x y))) ∧ Below w.heap.size w w' := by
 have h := IW [⟨some ⟨bt, 0, none⟩, 4, 4, sL level index⟩, ⟨some ⟨bx, 0, none⟩, 16, 16, x⟩, ⟨some ⟨by_, 0, none⟩, 16, 16, y⟩] w (by
  intro q hq
  simp only [List.mem_cons, List.not_mem_nil, or_false] at hq
  rcases hq with rfl | rfl | rfl
  ·exact bZ (L := sL level index) (cap := 4) h1 (xC _ _) l1 (Nat.le_refl _)
  ·have := bZ (cap := 16) h2 hx.2 l2 (by rw [hx.1]; exact Nat.le_refl _); rw [hx.1] at this; exact this
  ·have := bZ (cap := 16) h3 hy.2 l3 (by rw [hy.1]; exact Nat.le_refl _); rw [hy.1] at this; exact this) (by
  intro q hq
  simp only [List.mem_cons, List.not_mem_nil, or_false] at hq
  rcases hq with rfl | rfl | rfl <;> (intro h; cases h)) (by simp only [cat, sL, List.map_cons, List.map_nil, List.flatten_cons, List.flatten_nil, List.length_append, List.length_cons, List.length_nil]; rw [hx.1, hy.1]; omega) (show 3 ≤ 1099511627776 by omega)
 have e : cat [⟨some ⟨bt, 0, none⟩, 4, 4, sL level index⟩, ⟨some ⟨bx, 0, none⟩, 16, 16, x⟩, ⟨some ⟨by_, 0, none⟩, 16, 16, y⟩] = [6, level % 256, lb1 index, lb0 index] ++ x ++ y := by simp [cat, sL]
 rw [e] at h
 exact h
theorem lM (level index : Int) (x y : List Int) (w : World) (hx : H16 x) (hy : H16 y) (hk : KayIn w) (hk0 : 1 < w.heap.size) :
 Calls Tryz.prog 92 #[.int .i64 level, .int .i64 index, .agg (hvA x), .agg (hvA y)] w fun e w' => e = .returned (.agg (hvA (eZ level index x y))) ∧ Below w.heap.size w w' := by
 have HK := zh hk; clear hk
 have HKK : ∀ w0, Below w.heap.size w w0 → KayIn w0 := fun w0 hb => HK.out.below hb hk0
 have HKK2 := zh HKK; clear HKK
 have HX := zh hx; have HY := zh hy; clear hx hy
 have HT := zh (ThreeH.new w x y)
 go_enter Tryz.func92, Tryz.ntmps92
 go_wp2_with fail
 generalize hw0 : World.alloc (World.alloc (World.alloc w _) _) _ = w0
 have HT0 : Hid (ThreeH w x y w0) := by rw [← hw0]; exact HT.out
 clear hw0 HT
 refine wp_region_held_drew (S := fun w' => True) (by kernel_rfl) trivial (fun hHeld => ?_)
 refine zv 0 rfl ?_
 refine zv 1 rfl ?_
 refine zv 2 rfl ?_
 refine zv 3 rfl ?_
 refine zv 4 rfl ?_
 refine zv 5 rfl ?_
 refine zv 6 rfl ?_
 refine zv 8 rfl ?_
 refine zv 9 rfl ?_
 refine zr 7 rfl (fun K hK => ?_)
 have HO := zh (RowB.drew w0 5 (sL level index))
 go_simp
 generalize hw : World.drew (World.alloc w0 _) = w2
 have HO2 : Hid (RowB w0 5 (sL level index) w2) := by rw [← hw]; exact HO.out
 clear hw HO
 refine hK.out _ _ trivial fun _ => ?_; clear hK K
 try simp only [Act.put, zA, zB, zC, zD, zE, zF]
 have hs2 := HO2.out.s
 have hb2 := HO2.out.b
 have hz := HT0.out.s
 have HCH := zh (yY level index x y w2 w0.heap.size w.heap.size (w.heap.size + 1) HO2.out.r (HT0.out.x.below hb2 (by omega)) (HT0.out.y.below hb2 (by omega)) (by omega) (by omega) (by omega) HX.out HY.out (HKK2.out _ (HT0.out.b.trans (hb2.mono (by omega)))) (by omega))
 have HZ2 : Hid (w2.heap[w.heap.size + 2]? = some (.cells (Array.replicate 16 (Value.int .u8 0)) 54 (0, 0))) := (hb2.block _ (by omega)).trans HT0.out.z
 have HB2 : Hid (Below w.heap.size w w2) := HT0.out.b.trans (hb2.mono (by omega))
 have hlt2 : w.heap.size + 2 < w2.heap.size := by omega
 clear hs2 hb2 hz
 refine zr 10 rfl (fun K hK => ?_)
 go_simp
 refine hK.out _ _ trivial fun _ => ?_; clear hK K
 try simp only [Act.put, zA, zB, zC, zD, zE, zF]
 refine zr 11 rfl (fun K hK => ?_)
 go_simp
 with_reducible refine HCH.out.mono ?_
 rintro e w6 ⟨rfl, hb6⟩
 have HB6 : Hid (Below w2.heap.size w2 w6) := hb6
 have HZ6 : Hid (w6.heap[w.heap.size + 2]? = some (.cells (Array.replicate 16 (Value.int .u8 0)) 54 (0, 0))) := (hb6.block _ hlt2).trans HZ2.out
 clear hb6
 go_wp2_with fail
 refine hK.out _ _ trivial fun _ => ?_; clear hK K
 try simp only [Act.put, zA, zB, zC, zD, zE, zF]
 refine zr 12 rfl (fun K hK => ?_)
 rw [if_pos (by rfl)]
 refine wp_store_row 54 _ _ rfl (w.heap.size + 2) _ rfl rfl 54 _ HZ6.out (aN (bO _ _ _ _)) (dH (bO _ _ _ _)) (dG _) ?_
 refine hK.out _ _ trivial fun _ => ?_; clear hK K
 try simp only [Act.put, zA, zB, zC, zD, zE, zF]
 refine zd ?_ _
 go_wp2_with fail
 exact bodyPost_ret (results_cell_row (P := Tryz.prog) rfl _ _ (w.heap.size + 2) 54 _ (0, 0) _ rfl (setRow_heap _ _ _ _ _ _ HZ6.out) Tryz.underlying54 rfl (aN (bO _ _ _ _))) rfl ⟨rfl, below_setRow (HB2.out.trans (HB6.out.mono (by omega))) (by omega) _⟩
theorem BS (level index : Int) (x y : List Int) (w : World) (hx : H16 x) (hy : H16 y) :
 Calls Tryz.prog 97 #[.int .i64 level, .int .i64 index, .agg (hvA x), .agg (hvA y)] w fun e w' => e = .returned (.agg (hvA (eZ level index x y))) ∧ Below w.heap.size w w' := by
 skip
 have HX := zh hx; have HY := zh hy; clear hx hy
 have HT := zh (ThreeH.new w x y)
 go_enter Tryz.func97, Tryz.ntmps97
 go_wp2_with fail
 generalize hw0 : World.alloc (World.alloc (World.alloc w _) _) _ = w0
 have HT0 : Hid (ThreeH w x y w0) := by rw [← hw0]; exact HT.out
 clear hw0 HT
 refine wp_region_held_drew (S := fun w' => True) (by kernel_rfl) trivial (fun hHeld => ?_)
 refine zv 0 rfl ?_
 refine zv 1 rfl ?_
 refine zv 2 rfl ?_
 refine zv 3 rfl ?_
 refine zv 4 rfl ?_
 refine zv 5 rfl ?_
 refine zv 6 rfl ?_
 refine zv 8 rfl ?_
 refine zv 9 rfl ?_
 refine zr 7 rfl (fun K hK => ?_)
 have HO := zh (RowB.drew w0 5 (sL level index))
 go_simp
 generalize hw : World.drew (World.alloc w0 _) = w2
 have HO2 : Hid (RowB w0 5 (sL level index) w2) := by rw [← hw]; exact HO.out
 clear hw HO
 refine hK.out _ _ trivial fun _ => ?_; clear hK K
 try simp only [Act.put, zA, zB, zC, zD, zE, zF]
 have hs2 := HO2.out.s
 have hb2 := HO2.out.b
 have hz := HT0.out.s
 have HCH := zh (vN level index x y w2 w0.heap.size w.heap.size (w.heap.size + 1) HO2.out.r (HT0.out.x.below hb2 (by omega)) (HT0.out.y.below hb2 (by omega)) (by omega) (by omega) (by omega) HX.out HY.out)
 have HZ2 : Hid (w2.heap[w.heap.size + 2]? = some (.cells (Array.replicate 16 (Value.int .u8 0)) 54 (0, 0))) := (hb2.block _ (by omega)).trans HT0.out.z
 have HB2 : Hid (Below w.heap.size w w2) := HT0.out.b.trans (hb2.mono (by omega))
 have hlt2 : w.heap.size + 2 < w2.heap.size := by omega
 clear hs2 hb2 hz
 refine zr 10 rfl (fun K hK => ?_)
 go_simp
 refine hK.out _ _ trivial fun _ => ?_; clear hK K
 try simp only [Act.put, zA, zB, zC, zD, zE, zF]
 refine zr 11 rfl (fun K hK => ?_)
 go_simp
 with_reducible refine HCH.out.mono ?_
 rintro e w6 ⟨rfl, hb6⟩
 have HB6 : Hid (Below w2.heap.size w2 w6) := hb6
 have HZ6 : Hid (w6.heap[w.heap.size + 2]? = some (.cells (Array.replicate 16 (Value.int .u8 0)) 54 (0, 0))) := (hb6.block _ hlt2).trans HZ2.out
 clear hb6
 go_wp2_with fail
 refine hK.out _ _ trivial fun _ => ?_; clear hK K
 try simp only [Act.put, zA, zB, zC, zD, zE, zF]
 refine zr 12 rfl (fun K hK => ?_)
 rw [if_pos (by rfl)]
 refine wp_store_row 54 _ _ rfl (w.heap.size + 2) _ rfl rfl 54 _ HZ6.out (aN (bO _ _ _ _)) (dH (bO _ _ _ _)) (dG _) ?_
 refine hK.out _ _ trivial fun _ => ?_; clear hK K
 try simp only [Act.put, zA, zB, zC, zD, zE, zF]
 refine zd ?_ _
 go_wp2_with fail
 exact bodyPost_ret (results_cell_row (P := Tryz.prog) rfl _ _ (w.heap.size + 2) 54 _ (0, 0) _ rfl (setRow_heap _ _ _ _ _ _ HZ6.out) Tryz.underlying54 rfl (aN (bO _ _ _ _))) rfl ⟨rfl, below_setRow (HB2.out.trans (HB6.out.mono (by omega))) (by omega) _⟩
def lvN (h : Nat) : Int := ((2 ^ h : Nat) : Int)
theorem eO (h : Nat) (w : World) (hh : h ≤ 6) :
 Calls Tryz.prog 99 #[.int .i64 h] w fun e w' => e = .returned (.int .i64 (lvN h)) ∧ w = w' := by
 have hc : h = 0 ∨ h = 1 ∨ h = 2 ∨ h = 3 ∨ h = 4 ∨ h = 5 ∨ h = 6 := by omega
 clear hh
 rcases hc with rfl | rfl | rfl | rfl | rfl | rfl | rfl
 all_goals
  go_enter Tryz.func99, Tryz.ntmps99
  go_wp2
  go_ret
  exact ⟨rfl, rfl⟩
def eK (h : Int) : Bool := decide (0 ≤ h ∧ h ≤ 6)
theorem dU (h : Int) (w : World) :
 Calls Tryz.prog 98 #[.int .i64 h] w fun e w' => e = .returned (.bool (eK h)) ∧ w = w' := by
 by_cases h0 : 0 ≤ h
 ·have hd0 : decide (0 ≤ h) = true := by simp; exact h0
  by_cases h6 : h ≤ 6
  ·have hd6 : decide (h ≤ 6) = true := by simp; exact h6
   have HR : Hid (eK h = true) := by show _ = _; unfold eK; simp; exact ⟨h0, h6⟩
   rw [HR.out]
   go_enter Tryz.func98, Tryz.ntmps98
   go_wp2
   go_ret
   exact ⟨rfl, rfl⟩
  ·have hd6 : decide (h ≤ 6) = false := by simp; omega
   have HR : Hid (eK h = false) := by show _ = _; unfold eK; simp; omega
   rw [HR.out]
   go_enter Tryz.func98, Tryz.ntmps98
   go_wp2
   go_ret
   exact ⟨rfl, rfl⟩
 ·have hd0 : decide (0 ≤ h) = false := by simp; omega
  have HR : Hid (eK h = false) := by show _ = _; unfold eK; simp; omega
  rw [HR.out]
  go_enter Tryz.func98, Tryz.ntmps98
  go_wp2
  go_ret
  exact ⟨rfl, rfl⟩
structure Zro (w w0 : World) : Prop where
 z : w0.heap[w.heap.size]? = some (.cells (Array.replicate 16 (Value.int .u8 0)) 54 (0, 0))
 b : Below w.heap.size w w0
 s : w0.heap.size = w.heap.size + 1
theorem Zro.new (w : World) : Zro w (w.alloc (.cells (Array.replicate 16 (Value.int .u8 0)) 54)) := ⟨heap_alloc_new w _, aB _ _, aK _ _⟩
theorem LE (x : List Int) (i p : Nat) (w : World) (hs : H16 x) (hp : w.heap[p]? = some (.cells (hvA x) 54 (0, 0))) (hk : KayIn w) (hk0 : 1 < w.heap.size) :
 Calls Tryz.prog 142 #[.int .i64 (i : Int), .pointer (some ⟨p, 0, none⟩)] w fun e w' => e = .returned (.agg (hvA (iO x 0 i))) ∧ Below w.heap.size w w' := by
 have HS := zh hs; have HP := zh hp; have HK := zh hk
 have hpl : p < w.heap.size := (Array.getElem?_eq_some_iff.1 hp).1
 clear hs hp hk
 have HT := zh (Zro.new w)
 go_enter Tryz.func142, Tryz.ntmps142
 go_wp2_with (generalize hw0 : World.alloc w _ = w0; have HT0 : Hid (Zro w w0) := (by rw [← hw0]; exact HT.out); have HPR : Hid (w0.heap[p]? = some (.cells (hvA x) 54 (0, 0))) := (HT0.out.b.block _ hpl).trans HP.out; clear hw0 HT; refine wpList_load_row rfl 54 _ rfl p rfl 54 _ (0, 0) _ HPR.out Tryz.underlying54 rfl (aN HS.out) ?_)
 have hs0 := HT0.out.s
 have HK0 : Hid (KayIn w0) := HK.out.below HT0.out.b hk0
 refine (zQ x i w0 HS.out HK0.out (by omega)).mono ?_
 rintro e w1 ⟨rfl, hb1⟩
 have HZ1 : Hid (w1.heap[w.heap.size]? = some (.cells (Array.replicate 16 (Value.int .u8 0)) 54 (0, 0))) := (hb1.block _ (by omega)).trans HT0.out.z
 have HB1 : Hid (Below w.heap.size w w1) := HT0.out.b.trans (hb1.mono (by omega))
 clear hb1 hs0
 go_wp2_with (refine wpList_store_row rfl 54 _ _ rfl w.heap.size _ rfl rfl 54 _ HZ1.out (aN (fI _ _)) (dH (fI _ _)) (dG _) ?_)
 exact bodyPost_ret (results_cell_row (P := Tryz.prog) rfl _ _ w.heap.size 54 _ (0, 0) _ rfl (setRow_heap _ _ _ _ _ _ HZ1.out) Tryz.underlying54 rfl (aN (fI _ _))) rfl ⟨rfl, below_setRow HB1.out (Nat.le_refl _) _⟩
theorem FR (k i n cap p q sb so : Nat) (l : List (List Int)) (w : World) (hp : w.cell? ⟨p, 0, none⟩ = some (.int .i64 (k : Int))) (hpl : p < w.heap.size) (hq : w.cell? ⟨q, 0, none⟩ = some (.slice (some ⟨sb, so, none⟩) n cap)) (hql : q < w.heap.size)
 (hl : HvsIn w w.heap.size (some ⟨sb, so, none⟩) n cap l) (hi : 2 * i + 1 < n) (hn : n ≤ 1000000) (hk : KayIn w) (hk0 : 1 < w.heap.size) :
 Calls Tryz.prog 164 #[.int .i64 (i : Int), .pointer (some ⟨p, 0, none⟩), .pointer (some ⟨q, 0, none⟩)] w fun e w' => e = .returned (.agg (hvA (eZ (k : Int) (i : Int) (l.getD (2 * i) []) (l.getD (2 * i + 1) [])))) ∧ Below w.heap.size w w' := by
 have HP := zh hp; have HQ := zh hq; have HK := zh hk
 have dR := zh (hl.at16 (i := 2 * i) (by omega)); have jL := zh (hl.at16 (i := 2 * i + 1) hi)
 have hsb : sb < w.heap.size := by obtain ⟨b, o, e, h, _⟩ := hl.cells (by omega); injection e with e; injection e with e1 e2; omega
 have HXR : Hid (w.rangeAt sb (so + 2 * i * 16) ((l.getD (2 * i) []).map (Value.int .u8))) := by
  obtain ⟨b, o, e, h, _, hr⟩ := hl.cells (by omega); injection e with e; injection e with e1 e2; subst e1 e2; exact hr (2 * i) (by omega)
 have HYR : Hid (w.rangeAt sb (so + (2 * i + 1) * 16) ((l.getD (2 * i + 1) []).map (Value.int .u8))) := by
  obtain ⟨b, o, e, h, _, hr⟩ := hl.cells (by omega); injection e with e; injection e with e1 e2; subst e1 e2; exact hr (2 * i + 1) hi
 clear hp hq hk hl
 generalize l.getD (2 * i) [] = x at *
 generalize l.getD (2 * i + 1) [] = y at *
 have HIX := zh (cQ dR.out); have HIY := zh (cQ jL.out)
 have HT := zh (Zro.new w)
 go_enter Tryz.func164, Tryz.ntmps164
 go_wp2_with fail
 generalize hw0 : World.alloc w _ = w0
 have HT0 : Hid (Zro w w0) := by rw [← hw0]; exact HT.out
 clear hw0 HT
 have hs0 : w.heap.size < w0.heap.size := by have := HT0.out.s; omega
 have HK0 : Hid (KayIn w0) := HK.out.below HT0.out.b hk0
 have hk00 : 1 < w0.heap.size := by omega
 have HJC := zh (fun w' (hb : Below w0.heap.size w0 w') => (show Calls Tryz.prog 92 #[.int .i64 (k : Int), .int .i64 (i : Int), .agg (x.map (Value.int .u8)).toArray, .agg (y.map (Value.int .u8)).toArray] w' fun e w'' => e = .returned (.agg (hvA (eZ (k : Int) (i : Int) x y))) ∧ Below w'.heap.size w' w'' from lM k i x y w' dR.out jL.out (HK0.out.below hb hk00) (by have := hb.size; omega)))
 have m1 : IntKind.i64.wrap (2 * (i : Int)) = 2 * (i : Int) := IntWalk.i64_in _ (by omega)
 have m2 : IntKind.i64.wrap (2 * (i : Int) + 1) = 2 * (i : Int) + 1 := IntWalk.i64_in _ (by omega)
 have q1 : (0 : Int) ≤ 2 * (i : Int) := by omega
 have q2 : 2 * (i : Int) < (n : Int) := by omega
 have q3 : (0 : Int) ≤ 2 * (i : Int) + 1 := by omega
 have q4 : 2 * (i : Int) + 1 < (n : Int) := by omega
 have t1 : (2 * (i : Int)).toNat = 2 * i := by omega
 have t2 : (2 * (i : Int) + 1).toNat = 2 * i + 1 := by omega
 refine wp_region_held_drew (S := fun w' => Below w.heap.size w w') (by kernel_rfl) HT0.out.b.drew (fun hHeld => ?_)
 refine zx 0 rfl (v := ?_) ?_ ?_; rotate_left
 ·intro w' hSw; have c1 := (hSw.cell (p := ⟨p, 0, none⟩) hpl).trans HP.out; go_simp; try with_reducible rfl
 refine zv 1 rfl ?_
 refine zx 2 rfl (v := ?_) ?_ ?_; rotate_left
 ·intro w' hSw; have c1 := (hSw.cell (p := ⟨q, 0, none⟩) hql).trans HQ.out; go_simp; try with_reducible rfl
 refine zv 3 rfl ?_
 refine zv 4 rfl ?_
 refine zv 5 rfl ?_
 refine' zk 6 rfl (v := _) (yieldsIf_load_mid (by rfl) _ _ rfl _ _ rfl _ _ ?hS6n7 Tryz.underlying54 rfl HIX.out) ?rest6n7
 case hS6n7 =>
  intro w' hSw
  exact aA HXR.out hSw hsb
 try simp only [Act.put, zA, zB, zC, zD, zE, zF]
 refine zx 7 rfl (v := ?_) ?_ ?_; rotate_left
 ·intro w' hSw; have c1 := (hSw.cell (p := ⟨q, 0, none⟩) hql).trans HQ.out; go_simp; try with_reducible rfl
 refine zv 8 rfl ?_
 refine zv 9 rfl ?_
 refine zv 10 rfl ?_
 refine zv 11 rfl ?_
 refine' zk 12 rfl (v := _) (yieldsIf_load_mid (by rfl) _ _ rfl _ _ rfl _ _ ?hS12n13 Tryz.underlying54 rfl HIY.out) ?rest12n13
 case hS12n13 =>
  intro w' hSw
  exact aA HYR.out hSw hsb
 try simp only [Act.put, zA, zB, zC, zD, zE, zF]
 refine zr 13 rfl (fun K hK => ?_)
 go_simp
 with_reducible refine (HJC.out _ (Below.refl _ _).drew).mono ?_
 rintro e w6 ⟨rfl, hb⟩
 have HB6 : Hid (Below w0.heap.size w0 w6) := (Below.refl _ _).drew.trans hb
 have HZ6 : Hid (w6.heap[w.heap.size]? = some (.cells (Array.replicate 16 (Value.int .u8 0)) 54 (0, 0))) := (HB6.out.block _ hs0).trans HT0.out.z
 have NH : Hid (Below w.heap.size w w6) := HT0.out.b.trans (HB6.out.mono (by omega))
 clear hb
 go_wp2_with fail
 refine hK.out _ _ NH.out fun _ => ?_; clear hK K
 try simp only [Act.put, zA, zB, zC, zD, zE, zF]
 refine zr 14 rfl (fun K hK => ?_)
 rw [if_pos (by rfl)]
 refine wp_store_row 54 _ _ rfl w.heap.size _ rfl rfl 54 _ HZ6.out (aN (bO _ _ _ _)) (dH (bO _ _ _ _)) (dG _) ?_
 skip
 refine hK.out _ _ (below_setRow NH.out (Nat.le_refl _) _) fun _ => ?_; clear hK K
 try simp only [Act.put, zA, zB, zC, zD, zE, zF]
 refine zd ?_ _
 go_wp2_with fail
 exact bodyPost_ret (results_cell_row (P := Tryz.prog) rfl _ _ w.heap.size 54 _ (0, 0) _ rfl (setRow_heap _ _ _ _ _ _ HZ6.out) Tryz.underlying54 rfl (aN (bO _ _ _ _))) rfl ⟨rfl, below_setRow (HT0.out.b.trans (HB6.out.mono (by omega))) (Nat.le_refl _) _⟩
structure HPt where
 sp : Option Addr
 n : Nat
 cap : Nat
def HPt.val (q : HPt) : Value := .slice q.sp q.n q.cap
def OX (w : World) (base : Nat) (v : Value) (ps : List HPt) : Prop := w.ownsRow base 58 1 v ps.length (ps.map HPt.val)
theorem OF : (Tryz.prog.info? 58).map (fun i => (i.zero, i.size, i.bytes)) = some (some (.slice none 0 0), 1, 24) := by kernel_rfl
theorem DR (w : World) (x : Value) : ∀ j u, [x][j]? = some u → (w.alloc (.cells #[x] 58)).cell? ((⟨w.heap.size, 0, none⟩ : Addr).add j) = some u := by
 intro j u hj
 rw [Addr.add_mid, Nat.zero_add, cell_of_row _ w.heap.size j _ _ (0, 0) (heap_alloc_new w _)]
 simpa using hj
theorem nJ {w : World} {ops : Array Oper} {rest : List Oper} {o : Oper} {a : Act} {Q : Exit → Act → World → Prop} (hgd : o.guard = none) (s x : Operand) (ho : o.op = .call { callee := .builtin .append, args := #[s, x], argTypes := #[143, 143] })
 (base : Nat) (v : Value) (ps : List HPt) (hs : a.eval s = v) (hown : OX w base v ps) (q : HPt) (hx : a.eval x = .slice (some ⟨w.heap.size, 0, none⟩) 1 1)
 (hlen : ps.length ≤ 1000000000) (hbase : base ≤ w.heap.size)
 (h : ∀ v' w', Hid (OX w' base v' (ps ++ [q])) → Hid (Below base w w') → Hid ((w.alloc (.cells #[q.val] 58)).grownBy w' v.ownBlock) → wpList Tryz.prog ops Q rest (a.put o.dst v') w') : wpList Tryz.prog ops Q (o :: rest) a (w.alloc (.cells #[q.val] 58)) := by
 obtain ⟨i0, hi0, hz0, hz1, hz2⟩ := bF OF
 refine wpList_append_own _ hgd s x _ ho base _ i0 _ 1 24 Tryz.underlying143 hi0 hz0 hz1 hz2 rfl (by decide) v ps.length _ hs (World.ownsRow.alloc hown _) ⟨w.heap.size, 0, none⟩ 1 1 [q.val] hx rfl (DR w q.val) (by intro u hu; simp at hu; subst hu; rfl) (by unfold maxLen; omega) (by omega) (by simp; omega) ?_
 intro v' w' h1 h2 _
 refine h v' w' ?_ ?_ h2
 ·show w'.ownsRow _ _ _ _ _ _
  rw [List.map_append, List.length_append]; exact h1
 ·exact ((Below.refl base w).alloc hbase _).grown h2 (by simp; omega) (bL hown)
structure LvsIn (w : World) (B g m : Nat) (L : Nat → List (List Int)) : Prop where
 lt : g < B
 at_ : ∀ k, k < m → ∃ sp n cap, w.cell? ⟨g, k, none⟩ = some (.slice sp n cap) ∧ HvsIn w B sp n cap (L k)
theorem LvsIn.below {w w' : World} {B B' g m : Nat} {L : Nat → List (List Int)} (h : LvsIn w B g m L) (hb : Below B' w w') (hB : B ≤ B') : LvsIn w' B' g m L :=
 ⟨by have := h.lt; omega, fun k hk => by
  have hl := h.lt
  obtain ⟨sp, n, cap, hc, hh⟩ := h.at_ k hk
  exact ⟨sp, n, cap, (hb.cell (p := ⟨g, k, none⟩) (by show g < B'; omega)).trans hc, hh.below hb hB⟩⟩
def LvsOwn (w : World) (base : Nat) (v : Value) (m : Nat) (L : Nat → List (List Int)) : Prop :=
 ∃ ps : List HPt, ps.length = m ∧ OX w base v ps ∧ ∀ k (h : k < ps.length), OwnHv w 0 ps[k].val (L k) ∧ (L k).length = ps[k].n
theorem LvsOwn.one (w : World) {sp : Option Addr} {n cap : Nat} {L : Nat → List (List Int)} {base : Nat} (h : OwnHv w base (.slice sp n cap) (L 0)) (hl : (L 0).length = n) : LvsOwn (w.alloc (.cells #[.slice sp n cap] 58)) w.heap.size (.slice (some ⟨w.heap.size, 0, none⟩) 1 1) 1 L :=
 ⟨[⟨sp, n, cap⟩], rfl, World.ownsRow_lit w #[.slice sp n cap] 1 (Nat.le_refl _) (by unfold maxLen; omega) rfl, fun k hk => by
  have e : k = 0 := by simp at hk; omega
  subst e
  exact ⟨(h.base (Nat.zero_le _)).below (aB w _), hl⟩⟩
theorem LvsOwn.below {w w' : World} {base : Nat} {v : Value} {m : Nat} {L : Nat → List (List Int)} (h : LvsOwn w base v m L) (hb : Below w.heap.size w w') : LvsOwn w' base v m L := by
 obtain ⟨ps, h1, h2, h3⟩ := h
 exact ⟨ps, h1, eN h2 hb, fun k hk => ⟨(h3 k hk).1.below hb, (h3 k hk).2⟩⟩
theorem LvsOwn.shape {w : World} {base : Nat} {v : Value} {m : Nat} {L : Nat → List (List Int)} (h : LvsOwn w base v m L) (hm : 0 < m) : ∃ g cap, v = .slice (some ⟨g, 0, none⟩) m cap ∧ m ≤ cap ∧ LvsIn w w.heap.size g m L := by
 obtain ⟨ps, rfl, h2, h3⟩ := h
 obtain ⟨_, ⟨_, e0⟩ | ⟨g, c, cur, e, hg, h4, h5, h6, h7, h8⟩⟩ := h2
 ·omega
 ·refine ⟨g, c, e, h5, (Array.getElem?_eq_some_iff.1 h4).1, fun k hk => ⟨ps[k].sp, ps[k].n, ps[k].cap, ?_, ?_⟩⟩
  ·rw [cell_of_row w g k _ _ _ h4]
   have h9 : (ps.map HPt.val)[k]? = some ps[k].val := by rw [List.getElem?_map, List.getElem?_eq_getElem hk]; rfl
   rw [← h8, List.getElem?_take, if_pos (by omega)] at h9
   refine Eq.trans ?_ (show some ps[k].val = _ from rfl)
   simpa using h9
  ·have h10 := h3 k hk
   exact OwnHv.hvs (cap := ps[k].cap) h10.1 h10.2
theorem KX {w : World} {b1 b2 e1 e2 s1 s2 n1 n2 : Nat} {v1 v2 : Value} {x1 x2 : List Value} (h1 : w.ownsRow b1 e1 s1 v1 n1 x1) (h2 : w.ownsRow b2 e2 s2 v2 n2 x2) (hne : e1 ≠ e2) : v1.ownBlock = none ∨ v1.ownBlock ≠ v2.ownBlock := by
 obtain ⟨_, ⟨rfl, _⟩ | ⟨g, cap, cur, rfl, _, hg, _⟩⟩ := h1
 ·exact .inl rfl
 ·obtain ⟨_, ⟨rfl, _⟩ | ⟨g', cap', cur', rfl, _, hg', _⟩⟩ := h2
  ·exact .inr (by simp [Value.ownBlock])
  ·refine .inr fun e => ?_
   have e' : g = g' := by simpa [Value.ownBlock] using e
   subst e'
   rw [hg] at hg'
   injection hg' with hg'
   injection hg' with h1 h2
   exact hne h2
theorem LvsOwn.snoc {w w' : World} {base : Nat} {v v' : Value} {m : Nat} {L : Nat → List (List Int)} {ps : List HPt} (hm : ps.length = m) (hq : OX w base v ps) (h3 : ∀ k (h : k < ps.length), OwnHv w 0 ps[k].val (L k) ∧ (L k).length = ps[k].n)
 {q : HPt} {b : Nat} (hn : OwnHv w b q.val (L m)) (hl : (L m).length = q.n) (hw : OX w' base v' (ps ++ [q])) (hg : (w.alloc (.cells #[q.val] 58)).grownBy w' v.ownBlock) : LvsOwn w' base v' (m + 1) L := by
 have hk : ∀ u l, OwnHv w 0 u l → OwnHv w' 0 u l := fun u l h => ⟨World.ownsRow.kept (World.ownsRow.alloc h.1 _) hg (KX (w := w) h.1 hq (by decide)), h.2⟩
 subst hm
 refine ⟨ps ++ [q], by simp, hw, fun k hk' => ?_⟩
 by_cases e : k < ps.length
 ·rw [List.getElem_append_left e]; exact ⟨hk _ _ (h3 k e).1, (h3 k e).2⟩
 ·have e2 : k = ps.length := by simp at hk'; omega
  subst e2
  simp only [List.getElem_append_right (Nat.le_refl _), Nat.sub_self, List.getElem_cons_zero]
  exact ⟨hk _ _ (hn.base (Nat.zero_le _)), hl⟩
theorem eG (x : List Int) (h k : Nat) : (iY x h k).length = 2 ^ (h - k) := by simp [iY]
theorem CH (x : List Int) {h k i : Nat} (hi : i < 2 ^ (h - k)) : (iY x h k).getD i [] = iO x k i := by
 unfold iY; simp [List.getD_eq_getElem?_getD, hi]
structure NumSl (w : World) (k : Int) (v : Value) (w0 : World) : Prop where
 k : w0.cell? ⟨w.heap.size, 0, none⟩ = some (.int .i64 k)
 v : w0.cell? ⟨w.heap.size + 1, 0, none⟩ = some v
 b : Below w.heap.size w w0
 s : w0.heap.size = w.heap.size + 2
theorem NumSl.new (w : World) (k : Int) (v : Value) : NumSl w k v ((w.alloc (.cells #[.int .i64 k] 3)).alloc (.cells #[v] 58)) := by
 have h1 := heap_alloc_new w (.cells #[.int .i64 k] 3)
 have b1 := aB w (.cells #[.int .i64 k] 3)
 have s1 := aK w (.cells #[.int .i64 k] 3)
 generalize w.alloc (.cells #[.int .i64 k] 3) = w1 at *
 have h2 := heap_alloc_new w1 (.cells #[v] 58)
 have b2 := aB w1 (.cells #[v] 58)
 have s2 := aK w1 (.cells #[v] 58)
 generalize w1.alloc (.cells #[v] 58) = w2 at *
 rw [s1] at h2
 exact ⟨aH (L := [.int .i64 k]) ((b2.block _ (by omega)).trans h1) rfl, aH (L := [v]) h2 rfl, b1.trans (b2.mono (by omega)), by omega⟩
theorem vU (k n m : Nat) (sp : Option Addr) (cap : Nat) (l : List (List Int)) (w : World) (hl : HvsIn w w.heap.size sp n cap l) (hnm : n = 2 * m) (hm : 0 < m) (hn : n ≤ 1000000) (hk : KayIn w) (hk0 : 1 < w.heap.size) :
 Calls Tryz.prog 144 #[.int .i64 (k : Int), .slice sp n cap] w fun e w' => ∃ g, e = .returned (.slice (some ⟨g, 0, none⟩) m m) ∧ w.heap.size ≤ g ∧ OwnHv w' w.heap.size (.slice (some ⟨g, 0, none⟩) m m) ((List.range m).map fun i : Nat => eZ (k : Int) (i : Int) (l.getD (2 * i) []) (l.getD (2 * i + 1) [])) ∧ Below w.heap.size w w' := by
 obtain ⟨sb, so, hpl⟩ := hl.place
 obtain rfl := hpl (by omega)
 have HL := zh hl; have HK := zh hk; have HNM := zh hnm
 clear hl hk hpl
 have hq : (n : Int) / 2 = (m : Int) := by omega
 have hmm : m ≤ 1000000 := by omega
 clear hnm
 have HT := zh (NumSl.new w k (.slice (some ⟨sb, so, none⟩) n cap))
 have c1 := (NumSl.new w k (.slice (some ⟨sb, so, none⟩) n cap)).v
 go_enter Tryz.func144, Tryz.ntmps144
 go_wp2_with fail
 clear c1
 generalize hw0 : World.alloc (World.alloc w _) _ = w0
 have HT0 : Hid (NumSl w k (.slice (some ⟨sb, so, none⟩) n cap) w0) := by rw [← hw0]; exact HT.out
 clear hw0 HT
 have hs0 : w.heap.size + 2 ≤ w0.heap.size := Nat.le_of_eq HT0.out.s.symm
 have HC := zh (xD 164 w.heap.size (w.heap.size + 1) m (fun i : Nat => eZ (k : Int) (i : Int) (l.getD (2 * i) []) (l.getD (2 * i + 1) [])) w0 (fun i => bO _ _ _ _) hmm (enters_of Tryz.func164 (by kernel_rfl) rfl)
  (fun i hi w' hb => FR k i n cap w.heap.size (w.heap.size + 1) sb so l w' ((hb.cell (p := ⟨w.heap.size, 0, none⟩) (by show w.heap.size < _; omega)).trans HT0.out.k) (by have := hb.size; omega) ((hb.cell (p := ⟨w.heap.size + 1, 0, none⟩) (by show w.heap.size + 1 < _; omega)).trans HT0.out.v) (by have := hb.size; omega)
   ((HL.out.below (HT0.out.b.trans (hb.mono (by omega))) (Nat.le_refl _)).more (by have := hb.size; omega)) (by have := HNM.out; omega) hn (HK.out.below (HT0.out.b.trans (hb.mono (by omega))) hk0) (by have := hb.size; omega)))
 refine HC.out.mono ?_
 rintro e w1 ⟨rfl, ho, hb1⟩
 have HO := zh ho
 have HB1 : Hid (Below w.heap.size w w1) := HT0.out.b.trans (hb1.mono (by omega))
 clear ho hb1
 go_wp2_with fail
 go_ret
 exact ⟨w0.heap.size, rfl, by omega, HO.out.base (by omega), HB1.out⟩
theorem oV (x : List Int) {h k : Nat} (hk : k < h) : (List.range (2 ^ (h - (k + 1)))).map (fun i : Nat => eZ (k : Int) (i : Int) ((iY x h k).getD (2 * i) []) ((iY x h k).getD (2 * i + 1) [])) = iY x h (k + 1) := by
 show _ = (List.range (2 ^ (h - (k + 1)))).map _
 refine List.map_congr_left fun i hi => ?_
 have hi2 : i < 2 ^ (h - (k + 1)) := List.mem_range.1 hi
 have e : 2 ^ (h - k) = 2 * 2 ^ (h - (k + 1)) := by rw [show h - k = h - (k + 1) + 1 by omega, Nat.pow_succ]; omega
 rw [CH x (by omega), CH x (by omega), tS]
theorem oU {h : Nat} (hh : h ≤ 6) (k : Nat) : 2 ^ (h - k) ≤ 64 := by
 have : 2 ^ (h - k) ≤ 2 ^ 6 := Nat.pow_le_pow_right (by omega) (by omega)
 omega
theorem qN (x : List Int) (h : Nat) (w : World) (hs : H16 x) (hh : h ≤ 6) (hk : KayIn w) (hk0 : 1 < w.heap.size) :
 Calls Tryz.prog 102 #[.agg (hvA x), .int .i64 (h : Int)] w fun e w' => ∃ g cap, e = .returned (.slice (some ⟨g, 0, none⟩) (h + 1 : Nat) cap) ∧ h + 1 ≤ cap ∧ LvsIn w' w'.heap.size g (h + 1) (iY x h) ∧ Below w.heap.size w w' := by
 have HS := zh hs; have HK := zh hk
 clear hs hk
 have HR := zh (RowB.new w 54 x)
 go_enter Tryz.func102, Tryz.ntmps102
 go_wp2_with fail
 generalize hw0 : World.alloc w _ = w0
 have HR0 : Hid (RowB w 54 x w0) := by rw [← hw0]; exact HR.out
 clear hw0 HR
 have hs0 := HR0.out.s
 have HK0 : Hid (KayIn w0) := HK.out.below HR0.out.b hk0
 have HP6 := zh (oU hh 0)
 refine (eO h w0 hh).mono ?_
 rintro e w' ⟨rfl, rfl⟩
 have HC := zh (EY 142 w.heap.size (2 ^ h) (fun i => iO x 0 i) w0 (fun i => fX _ _ _) (by have := HP6.out; rw [Nat.sub_zero] at this; omega) (enters_of Tryz.func142 (by kernel_rfl) rfl)
  (fun i hi w' hb => LE x i w.heap.size w' HS.out ((hb.block _ (by omega)).trans HR0.out.r) (HK0.out.below hb (by omega)) (by have := hb.size; omega)))
 go_wp2_with fail
 refine HC.out.mono ?_
 rintro e w1 ⟨rfl, ho, hb1⟩
 have hl0 : (iY x h 0) = (List.range (2 ^ h)).map (fun i => iO x 0 i) := by unfold iY; rw [Nat.sub_zero]
 rw [← hl0] at ho
 have HLO := zh (LvsOwn.one w1 (L := iY x h) ho (by rw [eG, Nat.sub_zero]))
 have HB1 : Hid (Below w.heap.size w w1) := HR0.out.b.trans (hb1.mono (by omega))
 have HA := zh (aB w1 (.cells #[.slice (some ⟨w0.heap.size, 0, none⟩) (2 ^ h) (2 ^ h)] 58))
 have hs1 := HB1.out.size
 clear hl0 ho hb1 HC HP6 HR0 hs0 HK0 HS
 go_wp2_with fail
 generalize hw2 : World.alloc w1 _ = w2
 rw [hw2] at HLO HA
 clear hw2
 have HB2 : Hid (Below w.heap.size w w2) := HB1.out.trans (HA.out.mono hs1)
 have hs2 : w1.heap.size ≤ w2.heap.size := HA.out.size
 clear HB1 HA
 generalize w1.heap.size = base at *
 go_loopw [5, 13] (fun v i wr => ∃ k : Nat, k ≤ h ∧ i = .int .i64 k ∧ Hid (LvsOwn wr base v (k + 1) (iY x h)) ∧ Hid (Below w.heap.size w wr) ∧ base ≤ wr.heap.size) (fun _ i _ => h - (intOf i).toNat)
 case atStart => exact ⟨0, by omega, rfl, HLO.out, HB2.out, hs2⟩
 case round =>
  clear HLO HB2 hs2
  obtain ⟨k, hkh, rfl, HLR, HBR, hsr⟩ := hrel
  obtain ⟨g, cap, rfl, hcap, HIN'⟩ := HLR.out.shape (by omega)
  have HIN := zh HIN'; clear HIN'
  by_cases hlt : k < h
  ·obtain ⟨sp, n, c, hcell, hhv⟩ := HIN.out.at_ k (by omega)
   have HHV := zh hhv
   have hn2 : 2 ^ (h - k) = 2 * 2 ^ (h - (k + 1)) := by rw [show h - k = h - (k + 1) + 1 by omega, Nat.pow_succ]; omega
   have HN : Hid (n = 2 * 2 ^ (h - (k + 1))) := by show _ = _; rw [← hn2, ← eG x h k]; exact hhv.len.symm
   have hmp : 0 < 2 ^ (h - (k + 1)) := Nat.pow_pos (by omega)
   have HPL := zh (oV x hlt)
   have h64 : 2 ^ (h - (k + 1)) ≤ 64 := oU hh _
   clear hn2 hhv
   have HLN := zh (eG x h (k + 1))
   generalize 2 ^ (h - (k + 1)) = m at *
   have hd1 : decide ((k : Int) < (h : Int)) = true := by simp; omega
   have p1 : (0 : Int) ≤ (k : Int) := by omega
   have p2 : (k : Int) < (k : Int) + 1 := by omega
   have p3 : (k : Int) + 1 ≤ (cap : Int) := by omega
   have HKR : Hid (KayIn wr) := HK.out.below HBR.out hk0
   have hkr : 1 < wr.heap.size := by have := HBR.out.size; omega
   go_wp2_with fail
   refine (vU k n m sp c (iY x h k) wr HHV.out HN.out hmp (by have := HN.out; omega) HKR.out hkr).mono ?_
   rintro e w5 ⟨gp, rfl, hgp, ho5, hb5⟩
   have HO5 := zh ho5
   rw [HPL.out] at HO5
   have HB5 := zh hb5
   have hs5 := hb5.size
   obtain ⟨ps, hps, hown, hall⟩ := HLR.out.below hb5
   have HPS := zh hps; have AQ := zh hown; have II := zh hall
   have hbs5 : base ≤ w5.heap.size := by omega
   clear ho5 hb5 hps hown hall hcell
   go_wp2_with (at_builtin; refine nJ rfl (.tmp 16) (.tmp 23) rfl base _ ps rfl AQ.out ⟨some ⟨gp, 0, none⟩, m, m⟩ rfl (by have := HPS.out; omega) hbs5 ?_; intro v8 w8 HO8 HB8 HG8)
   have HLS : Hid (LvsOwn w8 base v8 (k + 1 + 1) (iY x h)) := LvsOwn.snoc HPS.out AQ.out II.out (q := ⟨some ⟨gp, 0, none⟩, m, m⟩) HO5.out HLN.out HO8.out HG8.out
   have HBS : Hid (Below w.heap.size w w8) := HBR.out.trans ((HB5.out.mono HBR.out.size).trans (HB8.out.mono hs1))
   have hss : base ≤ w8.heap.size := by have := HB8.out.size; omega
   go_roundw
   case rel => exact ⟨k + 1, by omega, by go_num, HLS.out, HBS.out, hss⟩
   case measure => simp [intOf]; omega
  ·obtain rfl : k = h := by omega
   have hd1 : decide ((k : Int) < (k : Int)) = false := by simp
   go_wp2_with fail
   go_ret
   exact ⟨g, cap, rfl, hcap, HIN.out, HBR.out⟩
def pkL (h : Int) (r : List Int) : List Value := .int .i64 h :: r.map (Value.int .u8)
def sgL (x : List Int) (h n : Int) : List Value := x.map (Value.int .u8) ++ [.int .i64 h, .int .i64 n]
def siL (leaf : Int) (c p : Value) : List Value := [.int .i64 leaf, c, p]
def pkA (h : Int) (r : List Int) : Array Value := (pkL h r).toArray
def sgA (x : List Int) (h n : Int) : Array Value := (sgL x h n).toArray
def siA (leaf : Int) (c p : Value) : Array Value := (siL leaf c p).toArray
def aM : Value := .slice none 0 0
theorem CS : (Tryz.prog.info? 56).map (·.size) = some 17 := by kernel_rfl
theorem JB : (Tryz.prog.info? 64).map (·.size) = some 18 := by kernel_rfl
theorem CR : (Tryz.prog.info? 60).map (·.size) = some 3 := by kernel_rfl
theorem NJ : (Tryz.prog.info? 56).map (·.zero) = some (some (.agg ([Value.int .i64 0] ++ List.replicate 16 (Value.int .u8 0)).toArray)) := by kernel_rfl
theorem NI : (Tryz.prog.info? 64).map (·.zero) = some (some (.agg (List.replicate 16 (Value.int .u8 0) ++ [Value.int .i64 0, Value.int .i64 0]).toArray)) := by kernel_rfl
theorem iW {h : Int} {r : List Int} (hr : H16 r) : (pkA h r).size = 17 := by simp [pkA, pkL, hr.1]
theorem aC {x : List Int} {h n : Int} (hx : H16 x) : (sgA x h n).size = 18 := by simp [sgA, sgL, hx.1]
theorem eI {h : Int} {r : List Int} (hr : H16 r) : (Tryz.prog.info? 56).map (·.size) = some (pkA h r).size := by rw [iW hr]; exact CS
theorem aJ {x : List Int} {h n : Int} (hx : H16 x) : (Tryz.prog.info? 64).map (·.size) = some (sgA x h n).size := by rw [aC hx]; exact JB
theorem aP (l : Int) (c p : Value) : (Tryz.prog.info? 60).map (·.size) = some (siA l c p).size := CR
theorem xM (h : Int) (r : List Int) : (pkA h r).all (·.oneCell') = true := by
 rw [Array.all_eq_true]
 intro i hi
 simp only [pkA, pkL, List.getElem_toArray]
 cases i with
 | zero => rfl
 | succ i => simp [Value.oneCell']
theorem bA (x : List Int) (h n : Int) : (sgA x h n).all (·.oneCell') = true := by
 have : ∀ u ∈ sgL x h n, u.oneCell' = true := fun u hu => by
  rcases List.mem_append.1 hu with hu | hu
  ·obtain ⟨i, _, rfl⟩ := List.mem_map.1 hu; rfl
  ·simp only [List.mem_cons, List.not_mem_nil, or_false] at hu
   rcases hu with rfl | rfl <;> rfl
 unfold sgA
 rw [List.all_toArray, List.all_eq_true]
 exact this
theorem DU (h : Int) (r : List Int) (hr : H16 r) (w : World) :
 (Instr.build 56 #[(0, .int .i64 h), (1, .agg (r.map (Value.int .u8)).toArray)]).run Tryz.prog w = .ok (.agg (pkA h r)) w := by
 refine run_build w _ _ _ ?_
 rw [mT NJ Tryz.underlying56 (places := [(0, 1), (1, 16)]) (by kernel_rfl)]
 show Instr.fill _ ([] ++ ([Value.int .i64 0] ++ List.replicate 16 (Value.int .u8 0))).toArray [(0, .int .i64 h), (1, .agg (r.map (Value.int .u8)).toArray)] = _
 rw [jF [Value.int .i64 h] [] [Value.int .i64 0] (List.replicate 16 (Value.int .u8 0)) (off := 0) (sz := 1) rfl rfl rfl rfl rfl, List.nil_append]
 rw [show [Value.int .i64 h] ++ List.replicate 16 (Value.int .u8 0) = [Value.int .i64 h] ++ (List.replicate 16 (Value.int .u8 0) ++ []) by simp]
 rw [jF (r.map (Value.int .u8)) [Value.int .i64 h] (List.replicate 16 (Value.int .u8 0)) [] (off := 1) (sz := 16) rfl rfl (by rw [List.length_map, hr.1]) rfl (by simp)]
 simp [Instr.fill, pkA, pkL]
structure PkBox (w : World) (x : List Int) (w0 : World) : Prop where
 x : w0.heap[w.heap.size]? = some (.cells (hvA x) 54 (0, 0))
 z : w0.heap[w.heap.size + 1]? = some (.cells (pkA 0 bK) 56 (0, 0))
 b : Below w.heap.size w w0
 s : w0.heap.size = w.heap.size + 2
theorem PkBox.new (w : World) (x : List Int) : PkBox w x ((w.alloc (.cells (hvA x) 54)).alloc (.cells (pkA 0 bK) 56)) :=
 ⟨(heap_alloc_old _ _ (by simp)).trans (heap_alloc_new w _), by have h := heap_alloc_new (w.alloc (.cells (hvA x) 54)) (.cells (pkA 0 bK) 56); rw [World.size_alloc] at h; exact h, ((Below.refl _ _).alloc (Nat.le_refl _) _).alloc (by simp) _, by simp⟩
theorem CG (x : List Int) (h : Nat) : iY x h h = [iO x h 0] := by unfold iY; rw [Nat.sub_self]; rfl
theorem LA (x : List Int) (h : Nat) (w : World) (hs : H16 x) (hh : h ≤ 6) (hk : KayIn w) (hk0 : 1 < w.heap.size) :
 Calls Tryz.prog 69 #[.agg (hvA x), .int .i64 (h : Int)] w fun e w' => e = .returned (.tuple #[.agg (pkA h (iO x h 0)), .int .i64 0]) ∧ Below w.heap.size w w' := by
 have HS := zh hs; have HK := zh hk; clear hs hk
 have HV : Hid (eK (h : Int) = true) := by show _ = _; unfold eK; simp; omega
 have HT := zh (PkBox.new w x)
 go_enter Tryz.func69, Tryz.ntmps69
 go_wp2_with fail
 generalize hw0 : World.alloc (World.alloc w _) _ = w0
 have HT0 : Hid (PkBox w x w0) := by rw [← hw0]; exact HT.out
 clear hw0 HT
 refine (dU h w0).mono ?_
 rintro e w' ⟨rfl, rfl⟩
 rw [HV.out]
 have hs0 : w.heap.size + 2 ≤ w0.heap.size := Nat.le_of_eq HT0.out.s.symm
 have HK0 : Hid (KayIn w0) := HK.out.below HT0.out.b hk0
 go_wp2_with (refine wpList_load_row rfl 54 _ rfl w.heap.size rfl 54 _ (0, 0) _ HT0.out.x Tryz.underlying54 rfl (aN HS.out) ?_)
 refine (qN x h w0 HS.out hh HK0.out (by omega)).mono ?_
 rintro e w1 ⟨g, cap, rfl, hcap, hin, hb1⟩
 obtain ⟨sp, n, c, hcell, hhv⟩ := hin.at_ h (by omega)
 rw [CG] at hhv
 obtain ⟨sb, so, hpl⟩ := hhv.place
 have hn1 : n = 1 := hhv.len.symm
 obtain rfl := hpl (by omega)
 subst hn1
 obtain ⟨sb', so', he, hsb, hc1, hr⟩ := hhv.cells (by omega)
 injection he with he; injection he with he1 he2; subst he1 he2
 have HR : Hid (w1.rangeAt sb so ((iO x h 0).map (Value.int .u8))) := by have := hr 0 (by omega); rw [Nat.zero_mul, Nat.add_zero] at this; exact this
 have HNK := zh (fX x h 0)
 have HB1 := zh hb1
 have HZ1 : Hid (w1.heap[w.heap.size + 1]? = some (.cells (pkA 0 bK) 56 (0, 0))) := (hb1.block _ (by omega)).trans HT0.out.z
 have HBW : Hid (Below w.heap.size w w1) := HT0.out.b.trans (hb1.mono (by omega))
 have p1 : (0 : Int) ≤ (h : Int) := by omega
 have p2 : (h : Int) < (h : Int) + 1 := by omega
 have p3 : (h : Int) + 1 ≤ (cap : Int) := by omega
 clear hb1 hpl hhv hin hr HS HV
 have HIR := zh (cQ HNK.out)
 go_wp2_with (first
  | (refine wpList_load_mid rfl 54 _ rfl sb so rfl _ _ HR.out Tryz.underlying54 rfl HIR.out ?_)
  | (refine cM rfl 56 [(0, .tmp 10), (1, .tmp 18)] rfl [(0, .int .i64 (h : Int)), (1, .agg ((iO x h 0).map (Value.int .u8)).toArray)] rfl _ (DU h (iO x h 0) HNK.out _) ?_)
  | (refine wpList_store_row rfl 56 _ _ rfl (w.heap.size + 1) _ rfl rfl 56 _ HZ1.out (eI HNK.out) (by rw [iW HNK.out, iW aD]) (xM _ _) ?_))
 exact bodyPost_ret (bT (P := Tryz.prog) rfl _ _ (w.heap.size + 1) 56 _ (0, 0) _ rfl (setRow_heap _ _ _ _ _ _ HZ1.out) Tryz.underlying56 rfl (eI HNK.out)) rfl ⟨rfl, below_setRow HBW.out (by omega) _⟩
theorem xor1F : ∀ c : Fin 128, bits .xor .i64 (c.val : Int) 1 = ((nb c.val : Nat) : Int) := by decide +kernel
theorem xor1 (i : Nat) (h : i < 128) : bits .xor .i64 (i : Int) 1 = ((nb i : Nat) : Int) := xor1F ⟨i, h⟩
theorem LC {i n : Nat} (h : i < 2 * n) : nb i < 2 * n := by unfold nb; split <;> omega
theorem KB {P : Program} {w : World} (leaf k : Nat) (hk : k ≤ 60) : (Op.shift .shr .i64 (leaf : Int) .i64 (k : Int)).run P w = .ok (.int .i64 ((leaf / 2 ^ k : Nat) : Int)) w := by
 unfold Op.shift
 rw [if_neg (by omega)]
 have e : min ((k : Int).toNat) IntKind.i64.bits = k := by
  rw [Int.toNat_natCast]
  exact Nat.min_eq_left (by show k ≤ 64; omega)
 rw [e]
 show Result.ok (Value.int .i64 ((leaf : Int).fdiv (2 ^ k))) w = _
 have e2 : (leaf : Int).fdiv (2 ^ k) = ((leaf / 2 ^ k : Nat) : Int) := by
  have h2 : (2 : Int) ^ k = ((2 ^ k : Nat) : Int) := by simp
  rw [h2, Int.fdiv_eq_ediv_of_nonneg _ (Int.natCast_nonneg _)]
  exact (Int.natCast_ediv leaf (2 ^ k)).symm
 rw [e2]
theorem GI {a : Act} {o : Oper} {w : World} {x y : Operand} (leaf k : Nat) (hk : k ≤ 60) (ho : o.op = .binOp .shr 3 x y 3) (hx : a.eval x = .int .i64 (leaf : Int)) (hy : a.eval y = .int .i64 (k : Int)) : (execOp a.eval o).run Tryz.prog w = .ok (Next.value (.int .i64 ((leaf / 2 ^ k : Nat) : Int))) w := by
 have hq := KB (P := Tryz.prog) (w := w) leaf k hk
 unfold execOp
 simp only [ho, hx, hy]
 go_simp
theorem BW (x : List Int) (h leaf k p q g cap : Nat) (w : World) (hp : w.cell? ⟨p, 0, none⟩ = some (.slice (some ⟨g, 0, none⟩) (h + 1) cap)) (hpl : p < w.heap.size) (hc : h + 1 ≤ cap) (hL : LvsIn w w.heap.size g (h + 1) (iY x h))
 (hq : w.cell? ⟨q, 17, none⟩ = some (.int .i64 (leaf : Int))) (hql : q < w.heap.size) (hk : k < h) (hl : leaf < 2 ^ h) (hh : h ≤ 6) :
 Calls Tryz.prog 141 #[.int .i64 (k : Int), .pointer (some ⟨p, 0, none⟩), .pointer (some ⟨q, 0, none⟩)] w fun e w' => e = .returned (.agg (hvA (dW x leaf k))) ∧ Below w.heap.size w w' := by
 have HP := zh hp; have HQ := zh hq
 have hgl := hL.lt
 obtain ⟨sp, n, c, hcell, hhv⟩ := hL.at_ k (by omega)
 have HCG := zh hcell
 have e1 : 2 ^ h = 2 ^ k * 2 ^ (h - k) := by rw [← Nat.pow_add]; congr 1; omega
 have e2 : 2 ^ (h - k) = 2 * 2 ^ (h - (k + 1)) := by rw [show h - k = h - (k + 1) + 1 by omega, Nat.pow_succ]; omega
 have hi : leaf / 2 ^ k < 2 ^ (h - k) := by rw [Nat.div_lt_iff_lt_mul (Nat.pow_pos (by omega)), Nat.mul_comm, ← e1]; exact hl
 have h64 : 2 ^ (h - k) ≤ 64 := oU hh k
 have hj : nb (leaf / 2 ^ k) < 2 ^ (h - k) := by rw [e2] at hi ⊢; exact LC hi
 have hn : n = 2 ^ (h - k) := by rw [← eG x h k]; exact hhv.len.symm
 obtain ⟨sb, so, hsp⟩ := hhv.place
 obtain rfl := hsp (by omega)
 obtain ⟨sb', so', he, hsb, hnc, hr⟩ := hhv.cells (by omega)
 injection he with he; injection he with he1 he2; subst he1 he2
 have HX : Hid (w.rangeAt sb (so + nb (leaf / 2 ^ k) * 16) ((dW x leaf k).map (Value.int .u8))) := by
  have h3 := hr (nb (leaf / 2 ^ k)) (by omega)
  rw [CH x hj] at h3
  exact h3
 have dR := zh (show H16 (dW x leaf k) from fX _ _ _)
 have hx1 := xor1 (leaf / 2 ^ k) (by omega)
 have HSH := zh (fun (a : Act) (o : Oper) (w : World) (x y : Operand) => GI (a := a) (o := o) (w := w) (x := x) (y := y) leaf k (by omega))
 have hk6 : k ≤ 6 := by omega
 have hjn : nb (leaf / 2 ^ k) < n := by omega
 clear hp hq hL hcell hhv hsp hr e1 e2 hi hn hj h64 hl
 generalize dW x leaf k = y at *
 generalize hjj : nb (leaf / 2 ^ k) = j at *
 clear hjj
 generalize leaf / 2 ^ k = i at *
 have HIX := zh (cQ dR.out)
 have HT := zh (Zro.new w)
 go_enter Tryz.func141, Tryz.ntmps141
 go_wp2_with fail
 generalize hw0 : World.alloc w _ = w0
 have HT0 : Hid (Zro w w0) := by rw [← hw0]; exact HT.out
 clear hw0 HT
 have p1 : (0 : Int) ≤ (k : Int) := by omega
 have p2 : (k : Int) < (h : Int) + 1 := by omega
 have p3 : (h : Int) + 1 ≤ (cap : Int) := by omega
 have p4 : (0 : Int) ≤ (j : Int) := by omega
 have p5 : (j : Int) < (n : Int) := by omega
 have p6 : (n : Int) ≤ (c : Int) := by omega
 refine wp_region_held_drew (S := fun w' => Below w.heap.size w w' ∧ True) (by kernel_rfl) ⟨HT0.out.b.drew, trivial⟩ (fun hHeld => ?_)
 refine zx 0 rfl (v := ?_) ?_ ?_; rotate_left
 ·intro w' hSw; have c1 := (hSw.1.cell (p := ⟨p, 0, none⟩) hpl).trans HP.out; go_simp; try with_reducible rfl
 refine zv 1 rfl ?_
 refine zv 2 rfl ?_
 refine zx 3 rfl (v := ?_) ?_ ?_; rotate_left
 ·intro w' hSw; have c1 := (hSw.1.cell (p := ⟨g, k, none⟩) hgl).trans HCG.out; go_simp; try with_reducible rfl
 refine zv 4 rfl ?_
 refine zx 5 rfl (v := ?_) ?_ ?_; rotate_left
 ·intro w' hSw; have c1 := (hSw.1.cell (p := ⟨q, 17, none⟩) hql).trans HQ.out; go_simp; try with_reducible rfl
 refine zv 6 rfl ?_
 refine zx 7 rfl (v := ?_) ?_ ?_; rotate_left
 ·intro w' hSw; refine HSH.out _ _ _ (.tmp 10) (.tmp 11) ?_ ?_ ?_ <;> rfl
 refine zv 8 rfl ?_
 refine zv 9 rfl ?_
 refine' zk 10 rfl (v := _) (yieldsIf_load_mid (by rfl) _ _ rfl _ _ rfl _ _ ?hS10n11 Tryz.underlying54 rfl HIX.out) ?rest10n11
 case hS10n11 =>
  intro w' hSw
  exact aA HX.out hSw.1 hsb
 try simp only [Act.put, zA, zB, zC, zD, zE, zF]
 refine zr 11 rfl (fun K hK => ?_)
 rw [if_pos (by rfl)]
 refine wp_store_row 54 _ _ rfl w.heap.size _ rfl rfl 54 _ HT0.out.z (aN dR.out) (dH dR.out) (dG _) ?_
 skip
 refine hK.out _ _ ⟨(below_setRow HT0.out.b (Nat.le_refl _) _).drew, trivial⟩ fun _ => ?_; clear hK K
 try simp only [Act.put, zA, zB, zC, zD, zE, zF]
 refine zd ?_ _
 go_wp2_with fail
 exact bodyPost_ret (results_cell_row (P := Tryz.prog) rfl _ _ w.heap.size 54 _ (0, 0) _ rfl (setRow_heap _ _ _ _ _ _ HT0.out.z) Tryz.underlying54 rfl (aN dR.out)) rfl ⟨rfl, (below_setRow HT0.out.b (Nat.le_refl _) _).drew⟩
theorem cR (w : World) (g : Nat) (cs : Array Value) : w.grownBy (w.setRow g cs) (some g) :=
 ⟨rfl, rfl, rfl, by simp [World.setRow], fun k _ hne => setRow_other w g k cs (fun e => hne (by rw [e]))⟩
theorem aQ (w : World) (g o : Nat) (v : Value) : w.grownBy (w.setCell ⟨g, o, none⟩ v) (some g) :=
 ⟨rfl, rfl, rfl, by simp [World.setCell], fun k _ hne => heap_setCell_other w ⟨g, o, none⟩ k v (fun e => hne (by rw [e]))⟩
theorem OwnHv.apart {w : World} {base : Nat} {v : Value} {l : List (List Int)} (h : OwnHv w base v l) {g : Nat} {cs : Array Value} {t : TypeId} {fr : Nat × Nat} (hg : w.heap[g]? = some (.cells cs t fr)) (ht : t ≠ 54) : v.ownBlock = none ∨ v.ownBlock ≠ some g := by
 obtain ⟨_, ⟨rfl, _⟩ | ⟨g2, cap, cur, rfl, _, hg2, _⟩⟩ := h.1
 ·exact .inl rfl
 ·refine .inr fun e => ?_
  have e' : g2 = g := by simpa [Value.ownBlock] using e
  subst e'
  rw [hg2] at hg
  injection hg with hg
  injection hg with h1 h2
  exact ht h2.symm
theorem OwnHv.setRow {w : World} {base : Nat} {v : Value} {l : List (List Int)} (h : OwnHv w base v l) {g : Nat} {cs : Array Value} {t : TypeId} {fr : Nat × Nat} (hg : w.heap[g]? = some (.cells cs t fr)) (ht : t ≠ 54) (cs' : Array Value) : OwnHv (w.setRow g cs') base v l :=
 ⟨World.ownsRow.kept h.1 (cR w g cs') (h.apart hg ht), h.2⟩
theorem OwnHv.setCell {w : World} {base : Nat} {v : Value} {l : List (List Int)} (h : OwnHv w base v l) {g : Nat} {cs : Array Value} {t : TypeId} {fr : Nat × Nat} (hg : w.heap[g]? = some (.cells cs t fr)) (ht : t ≠ 54) (o : Nat) (u : Value) : OwnHv (w.setCell ⟨g, o, none⟩ u) base v l :=
 ⟨World.ownsRow.kept h.1 (aQ w g o u) (h.apart hg ht), h.2⟩
theorem MZ {w : World} {b : Nat} {x : List Int} {h n : Int} (hb : w.heap[b]? = some (.cells (sgA x h n) 64 (0, 0))) : w.rangeAt b 0 (x.map (Value.int .u8)) := dP (pre := []) (post := [.int .i64 h, .int .i64 n]) hb (by simp [sgA, sgL]) rfl
theorem AL {w : World} {b : Nat} {x : List Int} {h n : Int} (hx : H16 x) (hb : w.heap[b]? = some (.cells (sgA x h n) 64 (0, 0))) : w.cell? ⟨b, 16, none⟩ = some (.int .i64 h) := by
 refine aH hb ?_
 unfold sgL
 rw [List.getElem?_append_right (by rw [List.length_map, hx.1]; exact Nat.le_refl _), List.length_map, hx.1]; rfl
theorem tA {w : World} {b : Nat} {x : List Int} {h n : Int} (hx : H16 x) (hb : w.heap[b]? = some (.cells (sgA x h n) 64 (0, 0))) : w.cell? ⟨b, 17, none⟩ = some (.int .i64 n) := by
 refine aH hb ?_
 unfold sgL
 rw [List.getElem?_append_right (by rw [List.length_map, hx.1]; omega), List.length_map, hx.1]; rfl
theorem rI {x : List Int} (hx : H16 x) (h n m : Int) : (sgA x h n).setIfInBounds 17 (.int .i64 m) = sgA x h m := by
 unfold sgA sgL
 rw [List.setIfInBounds_toArray, List.set_append_right _ _ (by rw [List.length_map, hx.1]; omega), List.length_map, hx.1]; rfl
theorem kI : 64 ≠ 54 := by decide
theorem gW : 60 ≠ 54 := by decide
structure SgBox (w : World) (x : List Int) (h n : Int) (w0 : World) : Prop where
 s : w0.heap[w.heap.size]? = some (.cells (sgA x h n) 64 (0, 0))
 b : Below w.heap.size w w0
 z : w0.heap.size = w.heap.size + 1
theorem LvsIn.more {w : World} {B B' g m : Nat} {L : Nat → List (List Int)} (h : LvsIn w B g m L) (hB : B ≤ B') : LvsIn w B' g m L :=
 ⟨by have := h.lt; omega, fun k hk => by obtain ⟨sp, n, cap, hc, hh⟩ := h.at_ k hk; exact ⟨sp, n, cap, hc, hh.more hB⟩⟩
theorem SgBox.new (w : World) (x : List Int) (h n : Int) : SgBox w x h n (w.alloc (.cells (sgA x h n) 64)) := ⟨heap_alloc_new w _, aB _ _, aK _ _⟩
theorem KY (w : World) (v : Value) : (w.alloc (.cells #[v] 143)).cell? ⟨w.heap.size, 0, none⟩ = some v := aH (L := [v]) (heap_alloc_new w _) rfl
theorem FP (x : List Int) (h leaf : Nat) (w : World) (hs : H16 x) (hh : h ≤ 6) (hl : leaf < 2 ^ h) (hk : KayIn w) (hk0 : 1 < w.heap.size) :
 Calls Tryz.prog 101 #[.agg (sgA x h leaf)] w fun e w' => ∃ g, e = .returned (.slice (some ⟨g, 0, none⟩) h h) ∧ OwnHv w' w.heap.size (.slice (some ⟨g, 0, none⟩) h h) (dM x h leaf) ∧ Below w.heap.size w w' := by
 have HS := zh hs; have HK := zh hk; clear hs hk
 have HL := zh hl; clear hl
 have HT := zh (SgBox.new w x h leaf)
 have HIX := zh (cQ HS.out)
 go_enter Tryz.func101, Tryz.ntmps101
 generalize (sgA x (h : Int) (leaf : Int)) = SA at *
 go_wp2_with (generalize hw0 : World.alloc w _ = w0; have HT0 : Hid (SgBox w x h leaf w0) := (by rw [← hw0]; exact HT.out); clear hw0 HT; have HX0 := zh (MZ HT0.out.s); have c16 := AL HS.out HT0.out.s; refine wpList_load_mid rfl 54 _ rfl w.heap.size 0 rfl _ _ HX0.out Tryz.underlying54 rfl HIX.out ?_)
 clear c16
 have hs0 : w.heap.size + 1 ≤ w0.heap.size := Nat.le_of_eq HT0.out.z.symm
 have HK0 : Hid (KayIn w0) := HK.out.below HT0.out.b hk0
 refine (qN x h w0 HS.out hh HK0.out (by omega)).mono ?_
 rintro e w1 ⟨g, cap, rfl, hcap, hin, hb1⟩
 have HIN := zh hin
 have HB1 := zh hb1
 have HS1 : Hid (w1.heap[w.heap.size]? = some (.cells (sgA x h leaf) 64 (0, 0))) := (hb1.block _ (by omega)).trans HT0.out.s
 have hs1 := hb1.size
 clear hin hb1
 have HQ := zh (KY w1 (.slice (some ⟨g, 0, none⟩) (h + 1) cap))
 have HQB := zh (aB w1 (.cells #[.slice (some ⟨g, 0, none⟩) (h + 1) cap] 143))
 have HQS := zh (aK w1 (.cells #[.slice (some ⟨g, 0, none⟩) (h + 1) cap] 143))
 have HC2 : Hid ((w1.alloc (.cells #[.slice (some ⟨g, 0, none⟩) (h + 1) cap] 143)).heap[w.heap.size]? = some (.cells (sgA x h leaf) 64 (0, 0))) := (HQB.out.block _ (by omega)).trans HS1.out
 have c16 := AL HS.out HC2.out
 go_wp2_with fail
 clear c16
 generalize hw2 : World.alloc w1 _ = w2
 rw [hw2] at HQ HQB HQS HC2
 clear hw2
 have hs2 : w1.heap.size + 1 ≤ w2.heap.size := Nat.le_of_eq HQS.out.symm
 have HC := zh (xD 141 w1.heap.size w.heap.size h (dW x leaf) w2 (fun k => fX _ _ _) (by omega) (enters_of Tryz.func141 (by kernel_rfl) rfl)
  (fun k hk w' hb => BW x h leaf k w1.heap.size w.heap.size g cap w' ((hb.cell (p := ⟨w1.heap.size, 0, none⟩) (by show w1.heap.size < _; omega)).trans HQ.out) (by have := hb.size; omega) hcap
   (((HIN.out.below HQB.out (Nat.le_refl _)).below (hb.mono (by omega : w1.heap.size ≤ w2.heap.size)) (Nat.le_refl _)).more (by have := hb.size; omega))
   (tA HS.out ((hb.block _ (by omega)).trans HC2.out)) (by have := hb.size; omega) hk HL.out hh))
 refine HC.out.mono ?_
 rintro e w3 ⟨rfl, ho, hb3⟩
 have HO := zh ho; have HB3 := zh hb3
 clear ho hb3
 go_wp2_with fail
 go_ret
 exact ⟨w2.heap.size, rfl, HO.out.base (by omega), HT0.out.b.trans ((HB1.out.mono (by omega)).trans ((HQB.out.mono (by omega)).trans (HB3.out.mono (by omega))))⟩
theorem aY {P : Program} {fn : Func} {p q u : Tmp} {t1 t2 : TypeId} (h : fn.results = #[.cell p t1, .cell q t2, .tmp u]) (tmps : Array Value) (w : World) (g1 g2 : Nat) (e1 e2 : TypeId) (c1 c2 : Array Value) (f1 f2 : Nat × Nat) (d1 d2 : TypeDesc)
 (hp : tmps.getD p undef = .pointer (some ⟨g1, 0, none⟩)) (hg1 : w.heap[g1]? = some (.cells c1 e1 f1)) (hq : tmps.getD q undef = .pointer (some ⟨g2, 0, none⟩)) (hg2 : w.heap[g2]? = some (.cells c2 e2 f2))
 (hu1 : P.underlying t1 = some d1) (hd1 : (match d1 with | .struct _ | .array _ _ => true | _ => false) = true) (hi1 : (P.info? t1).map (·.size) = some c1.size)
 (hu2 : P.underlying t2 = some d2) (hd2 : (match d2 with | .struct _ | .array _ _ => true | _ => false) = true) (hi2 : (P.info? t2).map (·.size) = some c2.size) :
 (results fn tmps).run P w = .ok (.tuple #[.agg c1, .agg c2, tmps.getD u undef]) w := by
 have hp' : tmps[p]?.getD undef = .pointer (some ⟨g1, 0, none⟩) := by simpa using hp
 have hq' : tmps[q]?.getD undef = .pointer (some ⟨g2, 0, none⟩) := by simpa using hq
 simp [results, h, hp', hq', asAddr, run_loadVar_row w g1 e1 t1 c1 f1 d1 hg1 hu1 hd1 hi1, run_loadVar_row w g2 e2 t2 c2 f2 d2 hg2 hu2 hd2 hi2]
theorem bV (l : Int) (s1 : Option Addr) (n1 c1 : Nat) (s2 : Option Addr) (n2 c2 : Nat) : (siA l (.slice s1 n1 c1) (.slice s2 n2 c2)).all (·.oneCell') = true := by
 simp [siA, siL, Value.oneCell']
theorem fJ (w : World) : (Instr.build 64 #[]).run Tryz.prog w = .ok (.agg (sgA bK 0 0)) w := by kernel_rfl
theorem oD (w : World) : (Instr.build 60 #[]).run Tryz.prog w = .ok (.agg (siA 0 aM aM)) w := by kernel_rfl
structure SnBox (w : World) (x : List Int) (h n : Int) (d : List Int) (w0 : World) : Prop where
 s : w0.heap[w.heap.size]? = some (.cells (sgA x h n) 64 (0, 0))
 d : w0.heap[w.heap.size + 1]? = some (.cells (dgA d) 43 (0, 0))
 y : w0.heap[w.heap.size + 2]? = some (.cells (sgA bK 0 0) 64 (0, 0))
 z : w0.heap[w.heap.size + 3]? = some (.cells (siA 0 aM aM) 60 (0, 0))
 b : Below w.heap.size w w0
 k : w0.heap.size = w.heap.size + 4
theorem SnBox.new (w : World) (x : List Int) (h n : Int) (d : List Int) : SnBox w x h n d ((((w.alloc (.cells (sgA x h n) 64)).alloc (.cells (dgA d) 43)).alloc (.cells (sgA bK 0 0) 64)).alloc (.cells (siA 0 aM aM) 60)) := by
 have h1 := heap_alloc_new w (.cells (sgA x h n) 64)
 have b1 := aB w (.cells (sgA x h n) 64)
 have s1 := aK w (.cells (sgA x h n) 64)
 generalize w.alloc (.cells (sgA x h n) 64) = w1 at *
 have h2 := heap_alloc_new w1 (.cells (dgA d) 43)
 have b2 := aB w1 (.cells (dgA d) 43)
 have s2 := aK w1 (.cells (dgA d) 43)
 generalize w1.alloc (.cells (dgA d) 43) = w2 at *
 have h3 := heap_alloc_new w2 (.cells (sgA bK 0 0) 64)
 have b3 := aB w2 (.cells (sgA bK 0 0) 64)
 have s3 := aK w2 (.cells (sgA bK 0 0) 64)
 generalize w2.alloc (.cells (sgA bK 0 0) 64) = w3 at *
 have h4 := heap_alloc_new w3 (.cells (siA 0 aM aM) 60)
 have b4 := aB w3 (.cells (siA 0 aM aM) 60)
 have s4 := aK w3 (.cells (siA 0 aM aM) 60)
 generalize w3.alloc (.cells (siA 0 aM aM) 60) = w4 at *
 have b34 := b3.trans (b4.mono (by omega))
 have b24 := b2.trans (b34.mono (by omega))
 refine ⟨(b24.block _ (by omega)).trans h1, ?_, ?_, ?_, b1.trans (b24.mono (by omega)), by omega⟩
 ·rw [← s1]; exact (b34.block _ (by omega)).trans h2
 ·rw [show w.heap.size + 2 = w2.heap.size by omega]; exact (b4.block _ (by omega)).trans h3
 ·rw [show w.heap.size + 3 = w3.heap.size by omega]; exact h4
theorem FB (x : List Int) (h n : Int) (d : List Int) (w : World) (hs : H16 x) (hd : D32 d) (hv : eK h = false ∨ n < 0) :
 Calls Tryz.prog 68 #[.agg (sgA x h n), .agg (dgA d)] w fun e w' => e = .returned (.tuple #[.agg (sgA bK 0 0), .agg (siA 0 aM aM), .int .i64 1]) ∧ Below w.heap.size w w' := by
 have HS := zh hs; have HD := zh hd; clear hs hd
 have HT := zh (SnBox.new w x h n d)
 have hn2 : eK h = true → decide (n < 0) = true := fun hg => by rcases hv with hv | hv <;> simp_all
 clear hv
 have HV : Hid (eK h = true → decide (n < 0) = true) := hn2
 clear hn2
 go_enter Tryz.func68, Tryz.ntmps68
 generalize (sgA x h n) = SA at *
 go_upto_region 1 with (fail)
 generalize hw0 : World.alloc (World.alloc (World.alloc (World.alloc w _) _) _) _ = w0
 have HT0 : Hid (SnBox w x h n d w0) := by rw [← hw0]; exact HT.out
 clear hw0 HT
 have hs0 : w.heap.size + 4 ≤ w0.heap.size := Nat.le_of_eq HT0.out.k.symm
 have c16 := AL HS.out HT0.out.s
 have c17 := tA HS.out HT0.out.s
 go_wp2_with fail
 refine (dU h w0).mono ?_
 rintro e w' ⟨rfl, rfl⟩
 have HY : Hid (w0.heap[w.heap.size + 1 + 1]? = some (.cells (sgA bK 0 0) 64 (0, 0))) := HT0.out.y
 have HZ : Hid (w0.heap[w.heap.size + 1 + 1 + 1]? = some (.cells (siA 0 aM aM) 60 (0, 0))) := HT0.out.z
 have hbs := fJ
 have hbi := oD
 by_cases hg : eK h = true
 ·have hn2 := HV.out hg
  rw [hg]
  clear hg HV
  go_wp2_with (first
   | (refine wpList_store_row rfl 64 _ _ rfl (w.heap.size + 1 + 1) (sgA bK 0 0) rfl rfl 64 _ HY.out (aJ aD) rfl (bA _ _ _) ?_; generalize hw8 : World.setRow w0 _ _ = w8; have HY8 : Hid (w8.heap[w.heap.size + 1 + 1]? = some (.cells (sgA bK 0 0) 64 (0, 0))) := (by rw [← hw8]; exact setRow_heap _ _ _ _ _ _ HY.out); have HZ8 : Hid (w8.heap[w.heap.size + 1 + 1 + 1]? = some (.cells (siA 0 aM aM) 60 (0, 0))) := (by rw [← hw8]; exact (setRow_other _ _ _ _ (by omega)).trans HZ.out); have HB8 : Hid (Below w.heap.size w w8) := (by rw [← hw8]; exact below_setRow HT0.out.b (by omega) _); clear hw8)
   | (refine wpList_store_row rfl 60 _ _ rfl (w.heap.size + 1 + 1 + 1) (siA 0 aM aM) rfl rfl 60 _ HZ8.out (aP _ _ _) rfl (bV _ _ _ _ _ _ _) ?_; generalize hw9 : World.setRow w8 _ _ = w9; have HZ9 : Hid (w9.heap[w.heap.size + 1 + 1 + 1]? = some (.cells (siA 0 aM aM) 60 (0, 0))) := (by rw [← hw9]; exact setRow_heap _ _ _ _ _ _ HZ8.out); have HY9 : Hid (w9.heap[w.heap.size + 1 + 1]? = some (.cells (sgA bK 0 0) 64 (0, 0))) := (by rw [← hw9]; exact (setRow_other _ _ _ _ (by omega)).trans HY8.out); have HB9 : Hid (Below w.heap.size w w9) := (by rw [← hw9]; exact below_setRow HB8.out (by omega) _); clear hw9))
  exact bodyPost_ret (aY (P := Tryz.prog) rfl _ _ (w.heap.size + 1 + 1) (w.heap.size + 1 + 1 + 1) 64 60 _ _ (0, 0) (0, 0) _ _ rfl HY9.out rfl HZ9.out Tryz.underlying64 rfl (aJ aD) Tryz.underlying60 rfl (aP _ _ _)) rfl ⟨rfl, HB9.out⟩
 ·have hg2 : eK h = false := by simpa using hg
  rw [hg2]
  clear hg hg2 HV
  go_wp2_with (first
   | (refine wpList_store_row rfl 64 _ _ rfl (w.heap.size + 1 + 1) (sgA bK 0 0) rfl rfl 64 _ HY.out (aJ aD) rfl (bA _ _ _) ?_; generalize hw8 : World.setRow w0 _ _ = w8; have HY8 : Hid (w8.heap[w.heap.size + 1 + 1]? = some (.cells (sgA bK 0 0) 64 (0, 0))) := (by rw [← hw8]; exact setRow_heap _ _ _ _ _ _ HY.out); have HZ8 : Hid (w8.heap[w.heap.size + 1 + 1 + 1]? = some (.cells (siA 0 aM aM) 60 (0, 0))) := (by rw [← hw8]; exact (setRow_other _ _ _ _ (by omega)).trans HZ.out); have HB8 : Hid (Below w.heap.size w w8) := (by rw [← hw8]; exact below_setRow HT0.out.b (by omega) _); clear hw8)
   | (refine wpList_store_row rfl 60 _ _ rfl (w.heap.size + 1 + 1 + 1) (siA 0 aM aM) rfl rfl 60 _ HZ8.out (aP _ _ _) rfl (bV _ _ _ _ _ _ _) ?_; generalize hw9 : World.setRow w8 _ _ = w9; have HZ9 : Hid (w9.heap[w.heap.size + 1 + 1 + 1]? = some (.cells (siA 0 aM aM) 60 (0, 0))) := (by rw [← hw9]; exact setRow_heap _ _ _ _ _ _ HZ8.out); have HY9 : Hid (w9.heap[w.heap.size + 1 + 1]? = some (.cells (sgA bK 0 0) 64 (0, 0))) := (by rw [← hw9]; exact (setRow_other _ _ _ _ (by omega)).trans HY8.out); have HB9 : Hid (Below w.heap.size w w9) := (by rw [← hw9]; exact below_setRow HB8.out (by omega) _); clear hw9))
  exact bodyPost_ret (aY (P := Tryz.prog) rfl _ _ (w.heap.size + 1 + 1) (w.heap.size + 1 + 1 + 1) 64 60 _ _ (0, 0) (0, 0) _ _ rfl HY9.out rfl HZ9.out Tryz.underlying64 rfl (aJ aD) Tryz.underlying60 rfl (aP _ _ _)) rfl ⟨rfl, HB9.out⟩
theorem FC (x : List Int) (h : Nat) (n : Int) (d : List Int) (w : World) (hs : H16 x) (hd : D32 d) (hh : h ≤ 6) (hn : lvN h ≤ n) :
 Calls Tryz.prog 68 #[.agg (sgA x h n), .agg (dgA d)] w fun e w' => e = .returned (.tuple #[.agg (sgA bK 0 0), .agg (siA 0 aM aM), .int .i64 13]) ∧ Below w.heap.size w w' := by
 have HS := zh hs; have HD := zh hd; clear hs hd
 have HV : Hid (eK (h : Int) = true) := by show _ = _; unfold eK; simp; omega
 have HN0 : Hid (decide (n < 0) = false) := by show _ = _; unfold lvN at hn; simp; have := Int.natCast_nonneg (2 ^ h); omega
 have hn1 : decide (n ≥ lvN h) = true := by simp; exact hn
 have HT := zh (SnBox.new w x h n d)
 go_enter Tryz.func68, Tryz.ntmps68
 generalize (sgA x h n) = SA at *
 go_upto_region 1 with (fail)
 generalize hw0 : World.alloc (World.alloc (World.alloc (World.alloc w _) _) _) _ = w0
 have HT0 : Hid (SnBox w x h n d w0) := by rw [← hw0]; exact HT.out
 clear hw0 HT
 have hs0 : w.heap.size + 4 ≤ w0.heap.size := Nat.le_of_eq HT0.out.k.symm
 have c16 := AL HS.out HT0.out.s
 have c17 := tA HS.out HT0.out.s
 go_wp2_with fail
 refine (dU h w0).mono ?_
 rintro e w' ⟨rfl, rfl⟩
 rw [HV.out]
 have hn0 := HN0.out
 have HY : Hid (w0.heap[w.heap.size + 1 + 1]? = some (.cells (sgA bK 0 0) 64 (0, 0))) := HT0.out.y
 have HZ : Hid (w0.heap[w.heap.size + 1 + 1 + 1]? = some (.cells (siA 0 aM aM) 60 (0, 0))) := HT0.out.z
 have hbs := fJ
 have hbi := oD
 go_wp2_with fail
 have HLV := zh (fun w' => eO h w' hh)
 refine wp_region_held_drew (S := fun w' => w'.cell? ⟨w.heap.size, 16, none⟩ = some (.int .i64 (h : Int)) ∧ w'.cell? ⟨w.heap.size, 17, none⟩ = some (.int .i64 n)) (by kernel_rfl) ⟨c16, c17⟩ (fun hHeld => ?_)
 refine zv 0 rfl ?_
 refine zx 1 rfl (v := ?_) ?_ ?_; rotate_left
 ·intro w' hSw; have c1 := hSw.2; go_simp; try with_reducible rfl
 refine zv 2 rfl ?_
 refine zx 3 rfl (v := ?_) ?_ ?_; rotate_left
 ·intro w' hSw; have c1 := hSw.1; go_simp; try with_reducible rfl
 refine zr 4 rfl (fun K hK => ?_)
 go_simp
 with_reducible refine (HLV.out _).mono ?_
 rintro e w' ⟨rfl, rfl⟩
 go_wp2_with fail
 refine hK.out _ _ ⟨c16, c17⟩ fun _ => ?_; clear hK K
 try simp only [Act.put, zA, zB, zC, zD, zE, zF]
 refine zv 5 rfl ?_
 refine zv 6 rfl ?_
 refine zd ?_ _
 go_wp2_with (first
  | (refine wpList_store_row rfl 64 _ _ rfl (w.heap.size + 1 + 1) (sgA bK 0 0) rfl rfl 64 _ HY.out (aJ aD) rfl (bA _ _ _) ?_; generalize hw8 : World.setRow w0.drew _ _ = w8; have HY8 : Hid (w8.heap[w.heap.size + 1 + 1]? = some (.cells (sgA bK 0 0) 64 (0, 0))) := (by rw [← hw8]; exact setRow_heap _ _ _ _ _ _ HY.out); have HZ8 : Hid (w8.heap[w.heap.size + 1 + 1 + 1]? = some (.cells (siA 0 aM aM) 60 (0, 0))) := (by rw [← hw8]; exact (setRow_other _ _ _ _ (by omega)).trans HZ.out); have HB8 : Hid (Below w.heap.size w w8) := (by rw [← hw8]; exact below_setRow HT0.out.b.drew (by omega) _); clear hw8)
  | (refine wpList_store_row rfl 60 _ _ rfl (w.heap.size + 1 + 1 + 1) (siA 0 aM aM) rfl rfl 60 _ HZ8.out (aP _ _ _) rfl (bV _ _ _ _ _ _ _) ?_; generalize hw9 : World.setRow w8 _ _ = w9; have HZ9 : Hid (w9.heap[w.heap.size + 1 + 1 + 1]? = some (.cells (siA 0 aM aM) 60 (0, 0))) := (by rw [← hw9]; exact setRow_heap _ _ _ _ _ _ HZ8.out); have HY9 : Hid (w9.heap[w.heap.size + 1 + 1]? = some (.cells (sgA bK 0 0) 64 (0, 0))) := (by rw [← hw9]; exact (setRow_other _ _ _ _ (by omega)).trans HY8.out); have HB9 : Hid (Below w.heap.size w w9) := (by rw [← hw9]; exact below_setRow HB8.out (by omega) _); clear hw9))
 exact bodyPost_ret (aY (P := Tryz.prog) rfl _ _ (w.heap.size + 1 + 1) (w.heap.size + 1 + 1 + 1) 64 60 _ _ (0, 0) (0, 0) _ _ rfl HY9.out rfl HZ9.out Tryz.underlying64 rfl (aJ aD) Tryz.underlying60 rfl (aP _ _ _)) rfl ⟨rfl, HB9.out⟩
end Go.Proofs.YtcligodahogpkaaGreatDoor
