/-
  Envelopes: the walk of the statements' light.
-/
import Derived.Test.YtcligodahogpkaaGreatDoorZip
import Derived.Test.YtcligodahogpkaaGreatDoorH3
set_option maxRecDepth 100000
set_option maxHeartbeats 8000000
namespace Go.Proofs.YtcligodahogpkaaGreatDoor
open Go.RowKit Go.Proofs.YtcligodahogpkaaGreatDoor.One
def LtE (t : ByteArray) (n m : Nat) (l : List Sg) : Prop := n ≤ 100000 ∧ t.size ≤ 300 ∧ m ≤ 12 ∧ ∀ y ∈ l, y.n ≤ 100 ∧ y.m ≤ 20
def LtR (t : ByteArray) (n m : Nat) (l : List Sg) (w : World) (e : Ending) (w' : World) : Prop := ∃ b, e = .returned (.bool b) ∧ (b = true → LtE t n m l) ∧ Below w.heap.size w w'
theorem zJ (t : ByteArray) (p : Value) (sp : Option Addr) (n cap : Nat) (hp : p = .slice sp n cap) (sq : Option Addr) (m cq : Nat) (l : List Sg) (w : World) (hl : SgsIn w w.heap.size sq m cq l) :
 Calls Tryz.prog 7 #[.agg (enA t p (.slice sq m cq))] w (LtR t n m l w) := by
 subst hp
 have HL := zh hl
 have HE := zh (heap_alloc_new w (.cells (enA t (.slice sp n cap) (.slice sq m cq)) 25))
 clear hl
 go_enter Tryz.func7, Tryz.ntmps7
 go_upto_region 1 with fail
 generalize hw0 : World.alloc w _ = w0
 have HE0 : Hid (w0.heap[w.heap.size]? = some (.cells (enA t (.slice sp n cap) (.slice sq m cq)) 25 (0, 0))) := by rw [← hw0]; exact HE.out
 have HB0 : Hid (Below w.heap.size w w0) := by rw [← hw0]; exact (Below.refl _ _).alloc (Nat.le_refl _) _
 have hs0 : w0.heap.size = w.heap.size + 1 := by rw [← hw0]; simp
 clear hw0 HE
 have c0 := vS HE0.out; have c1 := mH HE0.out; have c2 := fU HE0.out
 by_cases hn : 100000 < n
 ·have e1 : decide (((n : Nat) : Int) > 100000) = true := by simp; omega
  have e2 : decide ((100000 : Int) < ((n : Nat) : Int)) = true := e1
  have e3 : (100000 : Int) < ((n : Nat) : Int) := by omega
  go_wp2_with fail
  go_ret
  exact ⟨false, rfl, fun h => (by cases h), HB0.out⟩
 ·have e1 : decide (((n : Nat) : Int) > 100000) = false := by simp; omega
  have e2 : decide ((100000 : Int) < ((n : Nat) : Int)) = false := e1
  have e3 : ¬ (100000 : Int) < ((n : Nat) : Int) := by omega
  have e4 : ((n : Nat) : Int) ≤ 100000 := by omega
  by_cases ht : 300 < t.size
  ·have f1 : decide (((t.size : Nat) : Int) > 300) = true := by simp; omega
   have f2 : decide ((300 : Int) < ((t.size : Nat) : Int)) = true := f1
   have f3 : (300 : Int) < ((t.size : Nat) : Int) := by omega
   go_wp2_with fail
   go_ret
   exact ⟨false, rfl, fun h => (by cases h), HB0.out⟩
  ·have f1 : decide (((t.size : Nat) : Int) > 300) = false := by simp; omega
   have f2 : decide ((300 : Int) < ((t.size : Nat) : Int)) = false := f1
   have f3 : ¬ (300 : Int) < ((t.size : Nat) : Int) := by omega
   have f4 : ((t.size : Nat) : Int) ≤ 300 := by omega
   by_cases hm : 12 < m
   ·have g1 : decide (((m : Nat) : Int) > 12) = true := by simp; omega
    have g2 : decide ((12 : Int) < ((m : Nat) : Int)) = true := g1
    have g3 : (12 : Int) < ((m : Nat) : Int) := by omega
    go_wp2_with fail
    go_ret
    exact ⟨false, rfl, fun h => (by cases h), HB0.out⟩
   ·have g1 : decide (((m : Nat) : Int) > 12) = false := by simp; omega
    have g2 : decide ((12 : Int) < ((m : Nat) : Int)) = false := g1
    have g3 : ¬ (12 : Int) < ((m : Nat) : Int) := by omega
    have g4 : ((m : Nat) : Int) ≤ 12 := by omega
    go_wp2_with fail
    go_loopw [3] (fun i wr => ∃ k : Nat, k ≤ m ∧ i = .int .i64 k ∧ Hid (∀ y ∈ l.take k, y.n ≤ 100 ∧ y.m ≤ 20) ∧ Hid (Below w0.heap.size w0 wr)) (fun i _ => m - (intOf i).toNat)
    case atStart => exact ⟨0, Nat.zero_le _, rfl, fun y hy => (by simp at hy), Below.refl _ _⟩
    case round =>
     obtain ⟨k, hk, rfl, HT, HBR⟩ := hrel
     have HBW : Hid (Below w.heap.size w wr) := HB0.out.trans (HBR.out.mono (by omega))
     have HER : Hid (wr.heap[w.heap.size]? = some (.cells (enA t (.slice sp n cap) (.slice sq m cq)) 25 (0, 0))) := (HBR.out.block _ (by omega)).trans HE0.out
     clear c0 c1 c2
     have cS := fU HER.out
     by_cases hlt : k < m
     ·have hd : decide ((k : Int) < (m : Int)) = true := by simp; omega
      have hkl : k < l.length := by rw [HL.out.len]; exact hlt
      obtain ⟨bq, off, rfl, hbB, hcap, hr⟩ := HL.out.cells (by omega)
      obtain ⟨y, hy⟩ : ∃ y, l[k]? = some y := ⟨l[k], List.getElem?_eq_getElem hkl⟩
      have HOY := zh (HL.out.ok y (List.mem_of_getElem? hy))
      have hrs := sR (aA (hr k y hy) HBW.out hbB) HOY.out
      have d1 : wr.cell? ⟨bq, off + k * 20 + 17 + 1, none⟩ = some (.slice y.sp y.n y.c) := hrs 1 _ rfl
      have d2 : wr.cell? ⟨bq, off + k * 20 + 17 + 2, none⟩ = some (.slice y.sq y.m y.d) := hrs 2 _ rfl
      have d1' : wr.cell? ⟨bq, off + k * 20 + 18, none⟩ = some (.slice y.sp y.n y.c) := d1
      have d2' : wr.cell? ⟨bq, off + k * 20 + 19, none⟩ = some (.slice y.sq y.m y.d) := d2
      have HTK := zh (show l.take (k + 1) = l.take k ++ [y] by rw [List.take_add_one, hy]; rfl)
      have p1 : (0 : Int) ≤ (k : Int) := by omega
      have p2 : (k : Int) < (m : Int) := by omega
      have q1 : IntKind.i64.wrap (k : Int) = (k : Int) := IntWalk.i64_in _ (by omega)
      clear hr hy hrs
      by_cases ha : 100 < y.n
      ·have u1 : decide (((y.n : Nat) : Int) > 100) = true := by simp; omega
       have u2 : decide ((100 : Int) < ((y.n : Nat) : Int)) = true := u1
       have u3 : (100 : Int) < ((y.n : Nat) : Int) := by omega
       go_wp2_with fail
       go_ret
       exact ⟨false, rfl, fun h => (by cases h), HBW.out⟩
      ·have u1 : decide (((y.n : Nat) : Int) > 100) = false := by simp; omega
       have u2 : decide ((100 : Int) < ((y.n : Nat) : Int)) = false := u1
       have u3 : ¬ (100 : Int) < ((y.n : Nat) : Int) := by omega
       have u4 : ((y.n : Nat) : Int) ≤ 100 := by omega
       by_cases hb : 20 < y.m
       ·have v1 : decide (((y.m : Nat) : Int) > 20) = true := by simp; omega
        have v2 : decide ((20 : Int) < ((y.m : Nat) : Int)) = true := v1
        have v3 : (20 : Int) < ((y.m : Nat) : Int) := by omega
        go_wp2_with fail
        go_ret
        exact ⟨false, rfl, fun h => (by cases h), HBW.out⟩
       ·have v1 : decide (((y.m : Nat) : Int) > 20) = false := by simp; omega
        have v2 : decide ((20 : Int) < ((y.m : Nat) : Int)) = false := v1
        have v3 : ¬ (20 : Int) < ((y.m : Nat) : Int) := by omega
        have v4 : ((y.m : Nat) : Int) ≤ 20 := by omega
        go_wp2_with fail
        go_roundw
        case rel =>
         refine ⟨k + 1, by omega, by go_num, ?_, HBR.out⟩
         rw [HTK.out]
         intro z hz
         rcases List.mem_append.1 hz with hz | hz
         ·exact HT.out z hz
         ·rw [List.mem_singleton.1 hz]; omega
        case measure => simp [intOf]; omega
     ·obtain rfl : k = m := by omega
      have hd : decide ((k : Int) < (k : Int)) = false := by simp
      have HTK : Hid (l.take k = l) := by show _ = _; rw [List.take_of_length_le]; rw [HL.out.len]; omega
      rw [HTK.out] at HT
      go_wp2_with fail
      go_ret
      exact ⟨true, rfl, fun _ => ⟨by omega, by omega, by omega, HT.out⟩, HBW.out⟩
end Go.Proofs.YtcligodahogpkaaGreatDoor
