/-
  Keys of many one-time keys: the walks of Valid and Shaped, the program's and the reference's.
-/
import Derived.Test.YtcligodahogpkaaGreatDoorZip
import Derived.Test.YtcligodahogpkaaGreatDoorKeyH
set_option maxRecDepth 100000
set_option maxHeartbeats 8000000
namespace Go.Proofs.YtcligodahogpkaaGreatDoor
open Go.RowKit Go.Proofs.YtcligodahogpkaaGreatDoor.One
theorem jA {h : Int} {r : List Int} (hr : H16 r) : (Tryz.prog.info? 56).map (·.size) = some (pkL h r).length := by rw [show (pkL h r).length = 17 by simp [pkL, hr.1]]; exact CS
theorem uW {w : World} {b : Nat} {h : Int} {r : List Int} {fr : Nat × Nat} (hb : w.heap[b]? = some (.cells (pkA h r) 56 fr)) : w.cell? ⟨b, 0, none⟩ = some (.int .i64 h) := aH (L := pkL h r) hb rfl
theorem pk_r {w : World} {b : Nat} {h : Int} {r : List Int} (hb : w.heap[b]? = some (.cells (pkA h r) 56 (0, 0))) : w.rangeAt b 1 (r.map (Value.int .u8)) := dP (pre := [.int .i64 h]) (post := []) hb (by simp [pkL]) rfl
theorem rH {w : World} {b : Nat} {l : Int} {c p : Value} {fr : Nat × Nat} (hb : w.heap[b]? = some (.cells (siA l c p) 60 fr)) : w.cell? ⟨b, 0, none⟩ = some (.int .i64 l) := aH (L := siL l c p) hb rfl
theorem zH {w : World} {b : Nat} {l : Int} {c p : Value} {fr : Nat × Nat} (hb : w.heap[b]? = some (.cells (siA l c p) 60 fr)) : w.cell? ⟨b, 1, none⟩ = some c := aH (L := siL l c p) hb rfl
theorem vJ {w : World} {b : Nat} {l : Int} {c p : Value} {fr : Nat × Nat} (hb : w.heap[b]? = some (.cells (siA l c p) 60 fr)) : w.cell? ⟨b, 2, none⟩ = some p := aH (L := siL l c p) hb rfl
def lC (h l : Int) (n m : Nat) : Bool := decide ((0 ≤ h ∧ h ≤ 6) ∧ 0 ≤ l ∧ l < lvN h.toNat ∧ n = 68 ∧ (m : Int) = h)
theorem iK (h : Int) (r : List Int) (w : World) :
 Calls Tryz.prog 124 #[.agg (pkA h r)] w fun e w' => e = .returned (.bool (eK h)) ∧ Below w.heap.size w w' := by
 have HR := zh (heap_alloc_new w (.cells (pkA h r) 56))
 have HB := zh (aB w (.cells (pkA h r) 56))
 have c0 := uW HR.out
 go_enter Tryz.func124, Tryz.ntmps124
 go_wp2_with fail
 clear c0
 generalize World.alloc w _ = w0 at *
 refine (dU h w0).mono ?_
 rintro e w' ⟨rfl, rfl⟩
 go_wp2_with fail
 go_ret
 exact ⟨rfl, HB.out⟩
theorem gE (h : Int) (r : List Int) (w : World) :
 Calls Tryz.prog 21 #[.agg (pkA h r)] w fun e w' => e = .returned (.bool (eK h)) ∧ Below w.heap.size w w' := by
 have HR := zh (heap_alloc_new w (.cells (pkA h r) 56))
 have HB := zh (aB w (.cells (pkA h r) 56))
 have c0 := uW HR.out
 by_cases h0 : 0 ≤ h
 ·have hd0 : decide (h ≥ 0) = true := by simp; exact h0
  by_cases h6 : h ≤ 6
  ·have hd6 : decide (h ≤ 6) = true := by simp; exact h6
   have HV : Hid (eK h = true) := by show _ = _; unfold eK; simp; exact ⟨h0, h6⟩
   rw [HV.out]
   go_enter Tryz.func21, Tryz.ntmps21
   go_wp2_with fail
   go_ret
   exact ⟨rfl, HB.out⟩
  ·have hd6 : decide (h ≤ 6) = false := by simp; omega
   have HV : Hid (eK h = false) := by show _ = _; unfold eK; simp; omega
   rw [HV.out]
   go_enter Tryz.func21, Tryz.ntmps21
   go_wp2_with fail
   go_ret
   exact ⟨rfl, HB.out⟩
 ·have hd0 : decide (h ≥ 0) = false := by simp; omega
  have HV : Hid (eK h = false) := by show _ = _; unfold eK; simp; omega
  rw [HV.out]
  go_enter Tryz.func21, Tryz.ntmps21
  go_wp2_with fail
  go_ret
  exact ⟨rfl, HB.out⟩
structure PsBox (w : World) (h : Int) (r : List Int) (l : Int) (c p : Value) (w0 : World) : Prop where
 k : w0.heap[w.heap.size]? = some (.cells (pkA h r) 56 (0, 0))
 s : w0.heap[w.heap.size + 1]? = some (.cells (siA l c p) 60 (0, 0))
 b : Below w.heap.size w w0
 z : w0.heap.size = w.heap.size + 2
theorem PsBox.new (w : World) (h : Int) (r : List Int) (l : Int) (c p : Value) : PsBox w h r l c p ((w.alloc (.cells (pkA h r) 56)).alloc (.cells (siA l c p) 60)) :=
 ⟨(heap_alloc_old _ _ (by simp)).trans (heap_alloc_new w _), by have h := heap_alloc_new (w.alloc (.cells (pkA h r) 56)) (.cells (siA l c p) 60); rw [World.size_alloc] at h; exact h, ((Below.refl _ _).alloc (Nat.le_refl _) _).alloc (by simp) _, by simp⟩
end Go.Proofs.YtcligodahogpkaaGreatDoor
