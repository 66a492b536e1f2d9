/-
  One-time signatures: the walk of Public (condition: the table of constants reads as it is laid).
-/
import Derived.Test.YtkeieacmboidoaaDoorOneO
import Derived.KernelRfl
namespace Go.Proofs.YtkeieacmboidoaaDoor
open Go.RowKit Go.Proofs.YtkeieacmboidoaaDoor.One

def zz68 : Array Value := (List.replicate 1088 (Value.int .u8 0)).toArray
theorem zero68 (w : World) : (zeroValue 54).run Tryd.prog w = .ok (.agg zz68) w := by kernel_rfl
theorem below_setCellsO {B b : Nat} {a : World} (hb : B ≤ b) : ∀ (vs : List Value) (o : Nat) (w : World), Below B a w → Below B a (w.setCells b o vs)
  | [], _, _, h => h
  | v :: r, o, w, h => below_setCellsO hb r (o + 1) _ (h.setCell (by exact hb) v)
/-- the first k of 68 ends lie in block g -/
structure EndsIn (w : World) (g k : Nat) (E : Nat → List Int) : Prop where
  got : ∀ i, i < k → w.rangeAt g (i * 16) ((E i).map (Value.int .u8))
  room : w.there g 0 1088
theorem EndsIn.below {w w' : World} {g k B : Nat} {E : Nat → List Int} (h : EndsIn w g k E) (hb : Below B w w') (hg : g < B) : EndsIn w' g k E :=
  ⟨fun i hi => range_belowG (h.got i hi) hb hg, there_below2 h.room hb hg⟩
theorem EndsIn.at_ {w : World} {g k : Nat} {E : Nat → List Int} (h : EndsIn w g k E) (hk : k < 68) : w.there g (k * 16) 16 := fun j hj => by
  have := h.room (k * 16 + j) (by omega)
  rw [Nat.zero_add] at this
  exact this
theorem EndsIn.put {w : World} {g k : Nat} {E : Nat → List Int} (h : EndsIn w g k E) (hE : ∀ i, i < 68 → H16 (E i)) (hk : k < 68) : EndsIn (w.setCells g (k * 16) ((E k).map (Value.int .u8))) g (k + 1) E := by
  have hl : ∀ i, i < 68 → ((E i).map (Value.int .u8)).length = 16 := fun i hi => by rw [List.length_map, (hE i hi).1]
  refine ⟨fun i hi => ?_, World.there_setCells h.room _ _ _⟩
  by_cases e : i = k
  · subst e
    refine World.rangeAt_setCells_same _ _ _ _ ?_
    rw [hl _ hk]; exact h.at_ hk
  · exact World.rangeAt_setCells_apart (h.got i (by omega)) _ _ _ (Or.inr (by rw [hl i (by omega), hl k hk]; omega))
theorem EndsIn.hvs {w : World} {g : Nat} {E : Nat → List Int} (h : EndsIn w g 68 E) (hE : ∀ i, i < 68 → H16 (E i)) (hg : g < w.heap.size) : HvsIn w w.heap.size (some ⟨g, 0, none⟩) 68 68 ((List.range 68).map E) :=
  ⟨by simp, fun x hx => by obtain ⟨i, hi, rfl⟩ := List.mem_map.1 hx; exact hE i (List.mem_range.1 hi), fun _ => ⟨g, 0, rfl, hg, Nat.le_refl _, fun i hi => by
    have e : ((List.range 68).map E).getD i [] = E i := by simp [List.getD_eq_getElem?_getD, hi]
    rw [e, Nat.zero_add]; exact h.got i hi⟩⟩
/-- what lies in the three boxes: the seed, room for a half, room for the ends -/
structure Box3 (w : World) (x : List Int) (w0 : World) : Prop where
  x : w0.heap[w.heap.size]? = some (.cells (hvA x) 23 (0, 0))
  z : w0.heap[w.heap.size + 1]? = some (.cells (Array.replicate 16 (Value.int .u8 0)) 23 (0, 0))
  e : w0.there (w.heap.size + 2) 0 1088
  b : Below w.heap.size w w0
  s : w0.heap.size = w.heap.size + 3
theorem there_zz (w : World) (t : TypeId) : (w.alloc (.cells zz68 t)).there w.heap.size 0 1088 := fun j hj => by
  rw [Nat.zero_add]
  have hg := heap_alloc_new w (.cells zz68 t)
  refine ⟨?_, frozen_of_row _ _ _ _ _ hg⟩
  rw [cell_of_row _ w.heap.size j _ _ _ hg]
  have e : zz68[j]? = some (Value.int .u8 0) := by
    unfold zz68
    rw [List.getElem?_toArray, List.getElem?_replicate, if_pos hj]
  rw [e]; rfl
theorem Box3.new (w : World) (x : List Int) : Box3 w x (((w.alloc (.cells (hvA x) 23)).alloc (.cells (Array.replicate 16 (Value.int .u8 0)) 23)).alloc (.cells zz68 54)) := by
  have h := Two.new w x
  generalize (w.alloc (.cells (hvA x) 23)).alloc (.cells (Array.replicate 16 (Value.int .u8 0)) 23) = w1 at *
  have h2 := there_zz w1 54
  have b2 := below_alloc w1 (.cells zz68 54)
  have s2 := alloc_size w1 (.cells zz68 54)
  generalize w1.alloc (.cells zz68 54) = w2 at *
  have hs := h.s
  rw [hs] at h2
  exact ⟨(b2.block _ (by omega)).trans h.x, (b2.block _ (by omega)).trans h.z, h2, h.b.trans (b2.mono (by omega)), by omega⟩
def endE (x : List Int) (leaf : Int) (i : Nat) : List Int := climbB (secB x leaf i) leaf i 0 3
def pubB (x : List Int) (leaf : Int) : List Int := comB leaf ((List.range 68).map (endE x leaf))
theorem endE_H16 (x : List Int) (leaf : Int) (i : Nat) : H16 (endE x leaf i) := climbB_H16 (secB_H16 _ _ _) _ _ _ _
theorem pubB_H16 (x : List Int) (leaf : Int) : H16 (pubB x leaf) := comB_H16 _ _
set_option maxRecDepth 100000 in
set_option maxHeartbeats 4000000 in
theorem public_any (x : List Int) (leaf : Int) (w : World) (hs : H16 x) (hk : KayIn w) (hk0 : 0 < w.heap.size) :
    Calls Tryd.prog 16 #[.agg (hvA x), .int .i64 leaf] w fun e w' => e = .returned (.agg (hvA (pubB x leaf))) ∧ Below w.heap.size w w' := by
  have HK := Lib.hid hk; have HS := Lib.hid hs; clear hs hk
  have HT := Lib.hid (Box3.new w x)
  have hz := zero68
  go_enter Tryd.func16, Tryd.ntmps16
  go_wp2_with fail
  clear hz
  generalize hw0 : World.alloc (World.alloc (World.alloc w _) _) _ = w0
  have HT0 : Hid (Box3 w x w0) := by rw [← hw0]; exact HT.out
  clear hw0 HT
  generalize hb : w.heap.size = b at *
  have HBZ := Lib.hid hb; clear hb
  have HX0 : Hid (w0.heap[b]? = some (.cells (hvA x) 23 (0, 0))) := by have h := HT0.out.x; rw [HBZ.out] at h; exact h
  have HZ0 : Hid (w0.heap[b + 1]? = some (.cells (Array.replicate 16 (Value.int .u8 0)) 23 (0, 0))) := by have h := HT0.out.z; rw [HBZ.out] at h; exact h
  have HE0 : Hid (w0.there (b + 1 + 1) 0 1088) := by have h := HT0.out.e; rw [HBZ.out] at h; exact h
  have HB0 : Hid (Below b w w0) := by have h := HT0.out.b; rw [HBZ.out] at h; exact h
  have hz0 : b + 3 ≤ w0.heap.size := by have h := HT0.out.s; have := HBZ.out; omega
  have HK0 : Hid (KayIn w0) := HK.out.below HB0.out hk0
  clear HT0 HK
  go_loopw [7] (fun i wr => ∃ k : Nat, k ≤ 68 ∧ i = .int .i64 k ∧ Hid (EndsIn wr (b + 1 + 1) k (endE x leaf)) ∧ Hid (Below (b + 1 + 1) w0 wr)) (fun i _ => 68 - (intOf i).toNat)
  case atStart => exact ⟨0, by omega, rfl, ⟨fun i hi => absurd hi (by omega), HE0.out⟩, Below.refl _ _⟩
  case round =>
    clear HE0
    obtain ⟨k, hk, rfl, HER, HBR⟩ := hrel
    have hszr : b + 3 ≤ wr.heap.size := by have := HBR.out.size; omega
    have HKR : Hid (KayIn wr) := HK0.out.below HBR.out (by omega)
    have hkr : 0 < wr.heap.size := by omega
    by_cases hlt : k < 68
    · have HXR : Hid (wr.heap[b]? = some (.cells (hvA x) 23 (0, 0))) := (HBR.out.block b (by omega)).trans HX0.out
      have hd1 : decide ((k : Int) < 68) = true := by simp; omega
      have p1 : (0 : Int) ≤ (k : Int) := by omega
      have p2 : (k : Int) < 68 := by omega
      go_wp2_with (refine wpList_load_row rfl 23 _ rfl b rfl 23 _ (0, 0) _ HXR.out Tryd.underlying23 rfl (info_h HS.out) ?_)
      refine (secret_any x leaf k wr HS.out HKR.out hkr).mono ?_
      rintro e w5 ⟨rfl, hb5⟩
      have HB5 := Lib.hid hb5; clear hb5
      have HK5 : Hid (KayIn w5) := HKR.out.below HB5.out hkr
      have hk5 : 0 < w5.heap.size := by have := HB5.out.size; omega
      go_wp2_with fail
      refine (climb_any (secB x leaf k) leaf k 0 3 w5 (secB_H16 _ _ _) HK5.out hk5).mono ?_
      rintro e w6 ⟨rfl, hb6⟩
      have HB6 : Hid (Below wr.heap.size wr w6) := HB5.out.trans (hb6.mono HB5.out.size)
      clear hb6
      have HE6 : Hid (EndsIn w6 (b + 1 + 1) k (endE x leaf)) := HER.out.below HB6.out (by omega)
      have HEE : Hid (climbB (secB x leaf k) leaf k 0 3 = endE x leaf k) := rfl
      rw [HEE.out]
      have HSE : Hid ((hvA (endE x leaf k)).size = 16) := by show _ = _; simp [hvA, (endE_H16 x leaf k).1]
      go_wp2_with (refine wpList_store_mid rfl 23 _ _ rfl (b + 1 + 1) (k * 16) (hvA (endE x leaf k)) rfl rfl (by rw [HSE.out]; exact HE6.out.at_ hlt) (info_h (endE_H16 _ _ _)) (one_h _) ?_; generalize hw7 : World.setCells w6 _ _ _ = w7; have HE7 : Hid (EndsIn w7 (b + 1 + 1) (k + 1) (endE x leaf)) := (by rw [← hw7]; exact HE6.out.put (fun i _ => endE_H16 _ _ i) hlt); have HB7 : Hid (Below (b + 1 + 1) w0 w7) := (by rw [← hw7]; exact below_setCellsO (Nat.le_refl _) _ _ _ (HBR.out.trans (HB6.out.mono (by omega)))); clear hw7)
      go_roundw
      case rel => exact ⟨k + 1, by omega, by go_num, HE7, HB7⟩
      case measure => simp [intOf]; omega
    · obtain rfl : k = 68 := by omega
      have hd1 : decide (((68 : Nat) : Int) < 68) = false := by simp
      have HHV := Lib.hid (HER.out.hvs (fun i _ => endE_H16 x leaf i) (by omega))
      have HZR : Hid (wr.heap[b + 1]? = some (.cells (Array.replicate 16 (Value.int .u8 0)) 23 (0, 0))) := (HBR.out.block _ (by omega)).trans HZ0.out
      have HBW : Hid (Below b w wr) := HB0.out.trans (HBR.out.mono (by omega))
      go_wp2_with fail
      refine (combine_any leaf _ 68 68 _ wr HHV.out (by omega) HKR.out hkr).mono ?_
      rintro e w6 ⟨rfl, hb6⟩
      have HZ6 : Hid (w6.heap[b + 1]? = some (.cells (Array.replicate 16 (Value.int .u8 0)) 23 (0, 0))) := (hb6.block _ (by omega)).trans HZR.out
      have HB6 : Hid (Below b w w6) := HBW.out.trans (hb6.mono (by omega))
      have HPE : Hid (comB leaf ((List.range 68).map (endE x leaf)) = pubB x leaf) := rfl
      rw [HPE.out]
      clear hb6
      go_wp2_with (refine wpList_store_row rfl 23 _ _ rfl (b + 1) _ rfl rfl 23 _ HZ6.out (info_h (pubB_H16 _ _)) (size_h (pubB_H16 _ _)) (one_h _) ?_)
      exact bodyPost_ret (results_cell_row (P := Tryd.prog) rfl _ _ (b + 1) 23 _ (0, 0) _ rfl (setRow_heap _ _ _ _ _ _ HZ6.out) Tryd.underlying23 rfl (info_h (pubB_H16 _ _))) rfl ⟨rfl, by rw [HBZ.out]; exact below_setRow HB6.out (by omega) _⟩
end Go.Proofs.YtkeieacmboidoaaDoor
