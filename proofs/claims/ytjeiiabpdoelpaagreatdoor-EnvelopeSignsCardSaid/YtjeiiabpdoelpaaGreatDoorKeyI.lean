/-
  Keys of many one-time keys: the walks of Valid and Shaped, the program's and the reference's.
-/
import Derived.Test.YtjeiiabpdoelpaaGreatDoorKeyH
namespace Go.Proofs.YtjeiiabpdoelpaaGreatDoor
open Go.RowKit Go.Proofs.YtjeiiabpdoelpaaGreatDoor.One
theorem iC {h : Int} {r : List Int} (hr : H16 r) : (Tryz.prog.info? 64).map (·.size) = some (pkL h r).length := by rw [show (pkL h r).length = 17 by simp [pkL, hr.1]]; exact BC
theorem tC {w : World} {b : Nat} {h : Int} {r : List Int} {fr : Nat × Nat} (hb : w.heap[b]? = some (.cells (pkA h r) 64 fr)) : w.cell? ⟨b, 0, none⟩ = some (.int .i64 h) := aH (L := pkL h r) hb rfl
theorem pk_r {w : World} {b : Nat} {h : Int} {r : List Int} (hb : w.heap[b]? = some (.cells (pkA h r) 64 (0, 0))) : w.rangeAt b 1 (r.map (Value.int .u8)) := kL (pre := [.int .i64 h]) (post := []) hb (by simp [pkL]) rfl
theorem oB {w : World} {b : Nat} {l : Int} {c p : Value} {fr : Nat × Nat} (hb : w.heap[b]? = some (.cells (siA l c p) 67 fr)) : w.cell? ⟨b, 0, none⟩ = some (.int .i64 l) := aH (L := siL l c p) hb rfl
theorem tR {w : World} {b : Nat} {l : Int} {c p : Value} {fr : Nat × Nat} (hb : w.heap[b]? = some (.cells (siA l c p) 67 fr)) : w.cell? ⟨b, 1, none⟩ = some c := aH (L := siL l c p) hb rfl
theorem rC {w : World} {b : Nat} {l : Int} {c p : Value} {fr : Nat × Nat} (hb : w.heap[b]? = some (.cells (siA l c p) 67 fr)) : w.cell? ⟨b, 2, none⟩ = some p := aH (L := siL l c p) hb rfl
def kB (h l : Int) (n m : Nat) : Bool := decide ((0 ≤ h ∧ h ≤ 6) ∧ 0 ≤ l ∧ l < lvN h.toNat ∧ n = 68 ∧ (m : Int) = h)
theorem gL (h : Int) (r : List Int) (w : World) :
 Calls Tryz.prog 103 #[.agg (pkA h r)] w fun e w' => e = .returned (.bool (dX h)) ∧ Below w.heap.size w w' := by
 have HR := Lib.hid (heap_alloc_new w (.cells (pkA h r) 64))
 have HB := Lib.hid (aB w (.cells (pkA h r) 64))
 have c0 := tC HR.out
 go_enter Tryz.func103, Tryz.ntmps103
 go_wp2_with fail
 clear c0
 generalize World.alloc w _ = w0 at *
 refine (dK h w0).mono ?_
 rintro e w' ⟨rfl, rfl⟩
 go_wp2_with fail
 go_ret
 exact ⟨rfl, HB.out⟩
theorem fG (h : Int) (r : List Int) (w : World) :
 Calls Tryz.prog 29 #[.agg (pkA h r)] w fun e w' => e = .returned (.bool (dX h)) ∧ Below w.heap.size w w' := by
 have HR := Lib.hid (heap_alloc_new w (.cells (pkA h r) 64))
 have HB := Lib.hid (aB w (.cells (pkA h r) 64))
 have c0 := tC HR.out
 by_cases h0 : 0 ≤ h
 ·have hd0 : decide (h ≥ 0) = true := by simp; exact h0
  by_cases h6 : h ≤ 6
  ·have hd6 : decide (h ≤ 6) = true := by simp; exact h6
   have HV : Hid (dX h = true) := by show _ = _; unfold dX; simp; exact ⟨h0, h6⟩
   rw [HV.out]
   go_enter Tryz.func29, Tryz.ntmps29
   go_wp2_with fail
   go_ret
   exact ⟨rfl, HB.out⟩
  ·have hd6 : decide (h ≤ 6) = false := by simp; omega
   have HV : Hid (dX h = false) := by show _ = _; unfold dX; simp; omega
   rw [HV.out]
   go_enter Tryz.func29, Tryz.ntmps29
   go_wp2_with fail
   go_ret
   exact ⟨rfl, HB.out⟩
 ·have hd0 : decide (h ≥ 0) = false := by simp; omega
  have HV : Hid (dX h = false) := by show _ = _; unfold dX; simp; omega
  rw [HV.out]
  go_enter Tryz.func29, Tryz.ntmps29
  go_wp2_with fail
  go_ret
  exact ⟨rfl, HB.out⟩
structure PsBox (w : World) (h : Int) (r : List Int) (l : Int) (c p : Value) (w0 : World) : Prop where
 k : w0.heap[w.heap.size]? = some (.cells (pkA h r) 64 (0, 0))
 s : w0.heap[w.heap.size + 1]? = some (.cells (siA l c p) 67 (0, 0))
 b : Below w.heap.size w w0
 z : w0.heap.size = w.heap.size + 2
theorem PsBox.new (w : World) (h : Int) (r : List Int) (l : Int) (c p : Value) : PsBox w h r l c p ((w.alloc (.cells (pkA h r) 64)).alloc (.cells (siA l c p) 67)) :=
 ⟨(heap_alloc_old _ _ (by simp)).trans (heap_alloc_new w _), by have h := heap_alloc_new (w.alloc (.cells (pkA h r) 64)) (.cells (siA l c p) 67); rw [World.size_alloc] at h; exact h, ((Below.refl _ _).alloc (Nat.le_refl _) _).alloc (by simp) _, by simp⟩
end Go.Proofs.YtjeiiabpdoelpaaGreatDoor
