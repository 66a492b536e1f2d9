/-
  Versions: what a reading holds, and the walks of the small functions (conditions: keys of at most 100000 bytes).
-/
import Derived.Test.YtceeilojcifgeaaGreatDoorVerM
import Derived.Test.YtceeilojcifgeaaGreatDoorChecked
import Derived.WalkKit
import Derived.Below
import Derived.Lib.Hide
import Derived.Lib.AppendStr
import Derived.Lib.UnsafeStr
import Derived.Lib.IndexBytes
import Derived.Deep.OwnRows
import Derived.Deep.LoopGhost
import Derived.OwnWalk
import Derived.Maps.AppendAt
import Derived.IntWalk
namespace Go.Proofs.YtceeilojcifgeaaGreatDoor
open Go.RowKit

theorem ret_boolV {a b : Bool} (h : a = b) : Ending.returned (.bool a) = .returned (.bool b) := by rw [h]
theorem own_shapeV {w : World} {base e size : Nat} {v : Value} {n : Nat} {xs : List Value} (h : w.ownsRow base e size v n xs) : ∃ sp cap, v = .slice sp n cap := by
  obtain ⟨_, ⟨rfl, rfl⟩ | ⟨g, cap, cur, rfl, _⟩⟩ := h
  · exact ⟨none, 0, rfl⟩
  · exact ⟨_, cap, rfl⟩
theorem own_baseV {w : World} {base e size : Nat} {v : Value} {n : Nat} {xs : List Value} (h : w.ownsRow base e size v n xs) : ∀ k, v.ownBlock = some k → base ≤ k := fun k hk => (h.lt k hk).1
theorem own_keptV {w w' : World} {base e size n : Nat} {v : Value} {xs : List Value} (h : w.ownsRow base e size v n xs) (hg : ∀ k, base ≤ k → k < w.heap.size → w'.heap[k]? = w.heap[k]?) : w'.ownsRow base e size v n xs := by
  obtain ⟨h0, h1 | ⟨g, cap, cur, h1, h2, h3, h4⟩⟩ := h
  · exact ⟨h0, .inl h1⟩
  · exact ⟨h0, .inr ⟨g, cap, cur, h1, h2, (hg g h2 (Array.getElem?_eq_some_iff.1 h3).1).trans h3, h4⟩⟩
/-- a reading in block b: what is still to be read, and the key so far -/
def Rd (B : Nat) (w : World) (b : Nat) (r : ByteArray) (k : BL) : Prop :=
  B ≤ b ∧ ∃ sp cap, w.heap[b]? = some (.cells #[.string r, .slice sp k.length cap] 54 (0, 0)) ∧ w.ownsRow (b + 1) 5 1 (.slice sp k.length cap) k.length (Lib.byteCells k)
theorem Rd.lt {B : Nat} {w : World} {b : Nat} {r : ByteArray} {k : BL} (h : Rd B w b r k) : b < w.heap.size := by
  obtain ⟨_, sp, cap, h, _⟩ := h; exact (Array.getElem?_eq_some_iff.1 h).1
theorem Rd.below {B B' : Nat} {w w' : World} {b : Nat} {r : ByteArray} {k : BL} (h : Rd B w b r k) (hb : Below B' w w') (hB : w.heap.size ≤ B') : Rd B w' b r k := by
  have hl := h.lt
  obtain ⟨h0, sp, cap, h1, h2⟩ := h
  exact ⟨h0, sp, cap, (hb.block b (by omega)).trans h1, own_keptV h2 (fun k _ hk => hb.block k (by omega))⟩
theorem Rd.rest {B : Nat} {w : World} {b : Nat} {r : ByteArray} {k : BL} (h : Rd B w b r k) : w.cell? ⟨b, 0, none⟩ = some (.string r) := by
  obtain ⟨_, sp, cap, h, _⟩ := h; rw [cell_of_row w b 0 _ _ _ h]; rfl
theorem Rd.set {B : Nat} {w : World} {b : Nat} {r : ByteArray} {k : BL} (h : Rd B w b r k) (r' : ByteArray) : Rd B (w.setCell ⟨b, 0, none⟩ (.string r')) b r' k := by
  obtain ⟨h0, sp, cap, h1, h2⟩ := h
  exact ⟨h0, sp, cap, by rw [heap_setCell_same w b 0 _ _ _ h1]; rfl, own_keptV h2 (fun k hk _ => heap_setCell_other w ⟨b, 0, none⟩ k _ (by show k ≠ b; omega))⟩
theorem isD_and (c : UInt8) : isD c = (decide (48 ≤ (c.toNat : Int)) && decide ((c.toNat : Int) ≤ 57)) := by
  rw [Bool.eq_iff_iff, isD_iff, Bool.and_eq_true, decide_eq_true_iff, decide_eq_true_iff]; omega
theorem isL_and (c : UInt8) : isL c = ((decide (97 ≤ (c.toNat : Int)) && decide ((c.toNat : Int) ≤ 122)) || (decide (65 ≤ (c.toNat : Int)) && decide ((c.toNat : Int) ≤ 90))) := by
  rw [Bool.eq_iff_iff, isL_iff]; simp only [Bool.or_eq_true, Bool.and_eq_true, decide_eq_true_iff]; omega
theorem infoU8 : (Tryz.prog.info? 5).map (fun i => (i.zero, i.size, i.bytes)) = some (some (.int .u8 0), 1, 1) := by kernel_rfl
set_option maxHeartbeats 400000 in
theorem digit_any (c : UInt8) (w : World) : Calls Tryz.prog 60 #[.int .u8 c.toNat] w fun e w' => e = .returned (.bool (isD c)) ∧ w = w' := by
  rw [isD_and]
  by_cases h1 : 48 ≤ c.toNat
  · have d1 : decide (48 ≤ (c.toNat : Int)) = true := by simp; omega
    go_enter Tryz.func60, Tryz.ntmps60
    go_wp2
    go_ret
    exact ⟨ret_boolV (by rw [d1]; rfl), rfl⟩
  · have d1 : decide (48 ≤ (c.toNat : Int)) = false := by simp; omega
    go_enter Tryz.func60, Tryz.ntmps60
    go_wp2
    go_ret
    exact ⟨ret_boolV (by rw [d1]; rfl), rfl⟩
/-- rows that bear a mark are as they were (but for block b) -/
def MarkedKept (b : Nat) (w w' : World) : Prop := ∀ g, g ≠ b → (∃ C t f, f ≠ (0, 0) ∧ w.heap[g]? = some (.cells C t f)) → w'.heap[g]? = w.heap[g]?
set_option maxRecDepth 100000 in
set_option maxHeartbeats 1000000 in
theorem markX_any (B b : Nat) (m : UInt8) (r : ByteArray) (k : BL) (w : World) (h : Rd B w b r k) (hk : k.length ≤ 100000) :
    Calls Tryz.prog 78 #[.pointer (some ⟨b, 1, none⟩), .int .u8 m.toNat] w fun e w' => e = .returned (.tuple #[]) ∧ (Rd B w' b r (k ++ [m]) ∧ Below B w w') ∧ MarkedKept b w w' := by
  obtain ⟨i0, hi0, hz0, hz1, hz2⟩ := info_parts infoU8
  have HI0 := Lib.hid hi0; have HZ0 := Lib.hid hz0; have HZ1 := Lib.hid hz1; have HZ2 := Lib.hid hz2
  clear hi0 hz0 hz1 hz2
  have hlt := h.lt
  obtain ⟨hB, sp, cap, hrow, hown⟩ := h
  have HR := Lib.hid hrow; have HO := Lib.hid hown
  have h1 : w.cell? ⟨b, 1, none⟩ = some (.slice sp k.length cap) := by rw [cell_of_row w b 1 _ _ _ hrow]; rfl
  obtain ⟨n, hn⟩ : ∃ n, k.length = n := ⟨_, rfl⟩
  rw [hn] at h1 hk HO HR
  have HN := Lib.hid hn
  clear hrow hown hn
  go_enter Tryz.func78, Tryz.ntmps78
  go_wp2_with (at_builtin; refine wpList_append_own _ rfl (.tmp 8) (.tmp 10) 50 rfl (b + 1) 5 i0 (.int .u8 0) 1 1 Tryz.underlying50 HI0.out HZ0.out HZ1.out HZ2.out rfl (by decide) _ _ _ rfl (HO.out.alloc _) ⟨w.heap.size, 0, none⟩ 1 1 [.int .u8 (m.toNat : Int)] rfl rfl (cell_one_new _ _ _) (by intro u hu; simp at hu; subst hu; rfl) (by unfold maxLen; omega) (by omega) (by simp; omega) ?_; rintro v' w1 hown1 hg1 -
               obtain ⟨sp', cap', rfl⟩ := own_shapeV hown1
               have hrow1 := (hg1.block b (by simp; omega) (by intro e; have := (HO.out.lt b e.symm).1; omega)).trans ((Below.heap_alloc w _ b hlt).trans HR.out)
               have hc1 : w1.cell? ⟨b, 1, none⟩ = some (.slice sp n cap) := by rw [cell_of_row w1 b 1 _ _ _ hrow1]; rfl
               have hf1 : w1.frozen? ⟨b, 1, none⟩ = false := frozen_of_row w1 b 1 _ _ hrow1
               have HR1 := Lib.hid hrow1; have HO1 := Lib.hid hown1; have HG1 := Lib.hid hg1; clear hown1 hg1 hrow1)
  go_end0
  have hg := HG1.out
  refine ⟨rfl, ⟨⟨hB, sp', cap', ?_, ?_⟩, ?_⟩, ?_⟩
  · rw [heap_setCell_same w1 b 1 _ _ _ HR1.out, List.length_append, HN.out]; rfl
  · have := own_keptV (w' := w1.setCell ⟨b, 1, none⟩ (.slice sp' (n + 1) cap')) HO1.out (fun k hk _ => heap_setCell_other w1 ⟨b, 1, none⟩ k _ (by show k ≠ b; omega))
    rw [List.length_append, HN.out]
    simpa [Lib.byteCells] using this
  · exact ((((Below.refl B w).alloc (by omega) _).grown hg (by simp; omega) (fun k hk => by have := (HO.out.lt k hk).1; omega)).setCell (by show B ≤ b; exact hB) _)
  · intro g hgb ⟨C, t, f, hf, hC⟩
    have hgl : g < w.heap.size := (Array.getElem?_eq_some_iff.1 hC).1
    rw [heap_setCell_other w1 ⟨b, 1, none⟩ g _ hgb]
    refine (hg.block g (by simp; omega) (fun e => ?_)).trans (Below.heap_alloc w _ g hgl)
    obtain ⟨_, ⟨q, _⟩ | ⟨g', cap', cur, q, _, hq, _⟩⟩ := HO.out
    · injection q with q _ _; subst q; cases e
    · injection q with q _ _; subst q; injection e with e
      subst e
      rw [hC] at hq; injection hq with hq; injection hq with _ _ hq; exact hf hq
theorem mark_any (B b : Nat) (m : UInt8) (r : ByteArray) (k : BL) (w : World) (h : Rd B w b r k) (hk : k.length ≤ 100000) :
    Calls Tryz.prog 78 #[.pointer (some ⟨b, 1, none⟩), .int .u8 m.toNat] w fun e w' => e = .returned (.tuple #[]) ∧ Rd B w' b r (k ++ [m]) ∧ Below B w w' :=
  (markX_any B b m r k w h hk).mono fun _ _ ⟨e, h, _⟩ => ⟨e, h⟩
end Go.Proofs.YtceeilojcifgeaaGreatDoor
