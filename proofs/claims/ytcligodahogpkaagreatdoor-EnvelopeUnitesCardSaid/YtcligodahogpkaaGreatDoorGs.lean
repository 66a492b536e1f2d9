/-
  Keys of many one-time keys: the walk of the reference's Shaped, way by way.
-/
import Derived.Test.YtcligodahogpkaaGreatDoorZip
import Derived.Test.YtcligodahogpkaaGreatDoorGr
set_option maxRecDepth 100000
set_option maxHeartbeats 8000000
namespace Go.Proofs.YtcligodahogpkaaGreatDoor
open Go.RowKit Go.Proofs.YtcligodahogpkaaGreatDoor.One
theorem zO (h : Int) (r : List Int) (l : Int) (sp1 : Option Addr) (n c1 : Nat) (sp2 : Option Addr) (m c2 : Nat) (w : World) (hr : H16 r) (hv : eK h = false) :
 Calls Tryz.prog 64 #[.agg (pkA h r), .agg (siA l (.slice sp1 n c1) (.slice sp2 m c2))] w fun e w' => e = .returned (.bool false) ∧ Below w.heap.size w w' := by
 have jG := zh hr
 have HV := zh hv; clear hv
 clear hr
 have HT := zh (PsBox.new w h r l (.slice sp1 n c1) (.slice sp2 m c2))
 have HIP := zh (eI (h := h) jG.out)
 go_enter Tryz.func64, Tryz.ntmps64
 go_wp2_with (generalize hw0 : World.alloc (World.alloc w _) _ = w0; have HT0 : Hid (PsBox w h r l (.slice sp1 n c1) (.slice sp2 m c2) w0) := (by rw [← hw0]; exact HT.out); clear hw0 HT; refine wpList_load_row rfl 56 _ rfl w.heap.size rfl 56 _ (0, 0) _ HT0.out.k Tryz.underlying56 rfl HIP.out ?_)
 have hs0 : w.heap.size + 2 ≤ w0.heap.size := Nat.le_of_eq HT0.out.z.symm
 refine (gE h r w0).mono ?_
 rintro e w2 ⟨rfl, hb⟩
 rw [HV.out]
 have HB2 := zh hb; clear hb
 have HK2 : Hid (w2.heap[w.heap.size]? = some (.cells (pkA h r) 56 (0, 0))) := (HB2.out.block _ (by omega)).trans HT0.out.k
 have HS2 : Hid (w2.heap[w.heap.size + 1]? = some (.cells (siA l (.slice sp1 n c1) (.slice sp2 m c2)) 60 (0, 0))) := (HB2.out.block _ (by omega)).trans HT0.out.s
 have k1 := uW HK2.out
 have k2 := rH HS2.out
 have k3 := zH HS2.out
 have k4 := vJ HS2.out
 go_wp2_with fail
 go_ret
 exact ⟨rfl, HT0.out.b.trans (HB2.out.mono (by omega))⟩
theorem zN (h : Nat) (r : List Int) (l : Int) (sp1 : Option Addr) (n c1 : Nat) (sp2 : Option Addr) (m c2 : Nat) (w : World) (hr : H16 r) (hh : h ≤ 6) (hl : l < 0) :
 Calls Tryz.prog 64 #[.agg (pkA (h : Int) r), .agg (siA l (.slice sp1 n c1) (.slice sp2 m c2))] w fun e w' => e = .returned (.bool false) ∧ Below w.heap.size w w' := by
 have jG := zh hr
 have HV : Hid (eK (h : Int) = true) := by show _ = _; unfold eK; simp; omega
 have q1 : decide (0 ≤ l) = false := by simp; omega
 clear hl hr
 have HT := zh (PsBox.new w (h : Int) r l (.slice sp1 n c1) (.slice sp2 m c2))
 have HIP := zh (eI (h := (h : Int)) jG.out)
 go_enter Tryz.func64, Tryz.ntmps64
 go_wp2_with (generalize hw0 : World.alloc (World.alloc w _) _ = w0; have HT0 : Hid (PsBox w (h : Int) r l (.slice sp1 n c1) (.slice sp2 m c2) w0) := (by rw [← hw0]; exact HT.out); clear hw0 HT; refine wpList_load_row rfl 56 _ rfl w.heap.size rfl 56 _ (0, 0) _ HT0.out.k Tryz.underlying56 rfl HIP.out ?_)
 have hs0 : w.heap.size + 2 ≤ w0.heap.size := Nat.le_of_eq HT0.out.z.symm
 refine (gE (h : Int) r w0).mono ?_
 rintro e w2 ⟨rfl, hb⟩
 rw [HV.out]
 have HB2 := zh hb; clear hb
 have HK2 : Hid (w2.heap[w.heap.size]? = some (.cells (pkA (h : Int) r) 56 (0, 0))) := (HB2.out.block _ (by omega)).trans HT0.out.k
 have HS2 : Hid (w2.heap[w.heap.size + 1]? = some (.cells (siA l (.slice sp1 n c1) (.slice sp2 m c2)) 60 (0, 0))) := (HB2.out.block _ (by omega)).trans HT0.out.s
 have k1 := uW HK2.out
 have k2 := rH HS2.out
 have k3 := zH HS2.out
 have k4 := vJ HS2.out
 go_wp2_with fail
 go_ret
 exact ⟨rfl, HT0.out.b.trans (HB2.out.mono (by omega))⟩
theorem zM (h : Nat) (r : List Int) (l : Int) (sp1 : Option Addr) (n c1 : Nat) (sp2 : Option Addr) (m c2 : Nat) (w : World) (hr : H16 r) (hh : h ≤ 6) (hl : 0 ≤ l) (hl2 : lvN h ≤ l) :
 Calls Tryz.prog 64 #[.agg (pkA (h : Int) r), .agg (siA l (.slice sp1 n c1) (.slice sp2 m c2))] w fun e w' => e = .returned (.bool false) ∧ Below w.heap.size w w' := by
 have jG := zh hr
 have HV : Hid (eK (h : Int) = true) := by show _ = _; unfold eK; simp; omega
 have q1 : decide (0 ≤ l) = true := by simp; omega
 have q2 : decide (l < lvN h) = false := by simp; omega
 clear hl hl2 hr
 have HT := zh (PsBox.new w (h : Int) r l (.slice sp1 n c1) (.slice sp2 m c2))
 have HIP := zh (eI (h := (h : Int)) jG.out)
 go_enter Tryz.func64, Tryz.ntmps64
 go_wp2_with (generalize hw0 : World.alloc (World.alloc w _) _ = w0; have HT0 : Hid (PsBox w (h : Int) r l (.slice sp1 n c1) (.slice sp2 m c2) w0) := (by rw [← hw0]; exact HT.out); clear hw0 HT; refine wpList_load_row rfl 56 _ rfl w.heap.size rfl 56 _ (0, 0) _ HT0.out.k Tryz.underlying56 rfl HIP.out ?_)
 have hs0 : w.heap.size + 2 ≤ w0.heap.size := Nat.le_of_eq HT0.out.z.symm
 refine (gE (h : Int) r w0).mono ?_
 rintro e w2 ⟨rfl, hb⟩
 rw [HV.out]
 have HB2 := zh hb; clear hb
 have HK2 : Hid (w2.heap[w.heap.size]? = some (.cells (pkA (h : Int) r) 56 (0, 0))) := (HB2.out.block _ (by omega)).trans HT0.out.k
 have HS2 : Hid (w2.heap[w.heap.size + 1]? = some (.cells (siA l (.slice sp1 n c1) (.slice sp2 m c2)) 60 (0, 0))) := (HB2.out.block _ (by omega)).trans HT0.out.s
 have k1 := uW HK2.out
 have k2 := rH HS2.out
 have k3 := zH HS2.out
 have k4 := vJ HS2.out
 have hc : h = 0 ∨ h = 1 ∨ h = 2 ∨ h = 3 ∨ h = 4 ∨ h = 5 ∨ h = 6 := by omega
 clear hh
 rcases hc with rfl | rfl | rfl | rfl | rfl | rfl | rfl
 ·have e5 : lvN 0 = 1 := rfl
  have q5 : decide (l < 1) = false := by rw [← e5]; exact q2
  clear e5 q2
  go_wp2_with fail
  go_ret
  exact ⟨rfl, HT0.out.b.trans (HB2.out.mono (by omega))⟩
 ·have e5 : lvN 1 = 2 := rfl
  have q5 : decide (l < 2) = false := by rw [← e5]; exact q2
  clear e5 q2
  go_wp2_with fail
  go_ret
  exact ⟨rfl, HT0.out.b.trans (HB2.out.mono (by omega))⟩
 ·have e5 : lvN 2 = 4 := rfl
  have q5 : decide (l < 4) = false := by rw [← e5]; exact q2
  clear e5 q2
  go_wp2_with fail
  go_ret
  exact ⟨rfl, HT0.out.b.trans (HB2.out.mono (by omega))⟩
 ·have e5 : lvN 3 = 8 := rfl
  have q5 : decide (l < 8) = false := by rw [← e5]; exact q2
  clear e5 q2
  go_wp2_with fail
  go_ret
  exact ⟨rfl, HT0.out.b.trans (HB2.out.mono (by omega))⟩
 ·have e5 : lvN 4 = 16 := rfl
  have q5 : decide (l < 16) = false := by rw [← e5]; exact q2
  clear e5 q2
  go_wp2_with fail
  go_ret
  exact ⟨rfl, HT0.out.b.trans (HB2.out.mono (by omega))⟩
 ·have e5 : lvN 5 = 32 := rfl
  have q5 : decide (l < 32) = false := by rw [← e5]; exact q2
  clear e5 q2
  go_wp2_with fail
  go_ret
  exact ⟨rfl, HT0.out.b.trans (HB2.out.mono (by omega))⟩
 ·have e5 : lvN 6 = 64 := rfl
  have q5 : decide (l < 64) = false := by rw [← e5]; exact q2
  clear e5 q2
  go_wp2_with fail
  go_ret
  exact ⟨rfl, HT0.out.b.trans (HB2.out.mono (by omega))⟩
theorem zL (h : Nat) (r : List Int) (l : Int) (sp1 : Option Addr) (n c1 : Nat) (sp2 : Option Addr) (m c2 : Nat) (w : World) (hr : H16 r) (hh : h ≤ 6) (hl : 0 ≤ l) (hl2 : l < lvN h) (hn : n ≠ 68) :
 Calls Tryz.prog 64 #[.agg (pkA (h : Int) r), .agg (siA l (.slice sp1 n c1) (.slice sp2 m c2))] w fun e w' => e = .returned (.bool false) ∧ Below w.heap.size w w' := by
 have jG := zh hr
 have HV : Hid (eK (h : Int) = true) := by show _ = _; unfold eK; simp; omega
 have q1 : decide (0 ≤ l) = true := by simp; omega
 have q2 : decide (l < lvN h) = true := by simp; omega
 have q3 : ((n : Int) == 68) = false := by simp; omega
 clear hl hl2 hn hr
 have HT := zh (PsBox.new w (h : Int) r l (.slice sp1 n c1) (.slice sp2 m c2))
 have HIP := zh (eI (h := (h : Int)) jG.out)
 go_enter Tryz.func64, Tryz.ntmps64
 go_wp2_with (generalize hw0 : World.alloc (World.alloc w _) _ = w0; have HT0 : Hid (PsBox w (h : Int) r l (.slice sp1 n c1) (.slice sp2 m c2) w0) := (by rw [← hw0]; exact HT.out); clear hw0 HT; refine wpList_load_row rfl 56 _ rfl w.heap.size rfl 56 _ (0, 0) _ HT0.out.k Tryz.underlying56 rfl HIP.out ?_)
 have hs0 : w.heap.size + 2 ≤ w0.heap.size := Nat.le_of_eq HT0.out.z.symm
 refine (gE (h : Int) r w0).mono ?_
 rintro e w2 ⟨rfl, hb⟩
 rw [HV.out]
 have HB2 := zh hb; clear hb
 have HK2 : Hid (w2.heap[w.heap.size]? = some (.cells (pkA (h : Int) r) 56 (0, 0))) := (HB2.out.block _ (by omega)).trans HT0.out.k
 have HS2 : Hid (w2.heap[w.heap.size + 1]? = some (.cells (siA l (.slice sp1 n c1) (.slice sp2 m c2)) 60 (0, 0))) := (HB2.out.block _ (by omega)).trans HT0.out.s
 have k1 := uW HK2.out
 have k2 := rH HS2.out
 have k3 := zH HS2.out
 have k4 := vJ HS2.out
 have hc : h = 0 ∨ h = 1 ∨ h = 2 ∨ h = 3 ∨ h = 4 ∨ h = 5 ∨ h = 6 := by omega
 clear hh
 rcases hc with rfl | rfl | rfl | rfl | rfl | rfl | rfl
 ·have e5 : lvN 0 = 1 := rfl
  have q5 : decide (l < 1) = true := by rw [← e5]; exact q2
  clear e5 q2
  go_wp2_with fail
  go_ret
  exact ⟨rfl, HT0.out.b.trans (HB2.out.mono (by omega))⟩
 ·have e5 : lvN 1 = 2 := rfl
  have q5 : decide (l < 2) = true := by rw [← e5]; exact q2
  clear e5 q2
  go_wp2_with fail
  go_ret
  exact ⟨rfl, HT0.out.b.trans (HB2.out.mono (by omega))⟩
 ·have e5 : lvN 2 = 4 := rfl
  have q5 : decide (l < 4) = true := by rw [← e5]; exact q2
  clear e5 q2
  go_wp2_with fail
  go_ret
  exact ⟨rfl, HT0.out.b.trans (HB2.out.mono (by omega))⟩
 ·have e5 : lvN 3 = 8 := rfl
  have q5 : decide (l < 8) = true := by rw [← e5]; exact q2
  clear e5 q2
  go_wp2_with fail
  go_ret
  exact ⟨rfl, HT0.out.b.trans (HB2.out.mono (by omega))⟩
 ·have e5 : lvN 4 = 16 := rfl
  have q5 : decide (l < 16) = true := by rw [← e5]; exact q2
  clear e5 q2
  go_wp2_with fail
  go_ret
  exact ⟨rfl, HT0.out.b.trans (HB2.out.mono (by omega))⟩
 ·have e5 : lvN 5 = 32 := rfl
  have q5 : decide (l < 32) = true := by rw [← e5]; exact q2
  clear e5 q2
  go_wp2_with fail
  go_ret
  exact ⟨rfl, HT0.out.b.trans (HB2.out.mono (by omega))⟩
 ·have e5 : lvN 6 = 64 := rfl
  have q5 : decide (l < 64) = true := by rw [← e5]; exact q2
  clear e5 q2
  go_wp2_with fail
  go_ret
  exact ⟨rfl, HT0.out.b.trans (HB2.out.mono (by omega))⟩
theorem zK (h : Nat) (r : List Int) (l : Int) (sp1 : Option Addr) (n c1 : Nat) (sp2 : Option Addr) (m c2 : Nat) (w : World) (hr : H16 r) (hh : h ≤ 6) (hl : 0 ≤ l) (hl2 : l < lvN h) (hn : n = 68) (hm : m ≠ h) :
 Calls Tryz.prog 64 #[.agg (pkA (h : Int) r), .agg (siA l (.slice sp1 n c1) (.slice sp2 m c2))] w fun e w' => e = .returned (.bool false) ∧ Below w.heap.size w w' := by
 have jG := zh hr
 have HV : Hid (eK (h : Int) = true) := by show _ = _; unfold eK; simp; omega
 have q1 : decide (0 ≤ l) = true := by simp; omega
 have q2 : decide (l < lvN h) = true := by simp; omega
 have q3 : ((n : Int) == 68) = true := by simp; omega
 have q4 : ((m : Int) == (h : Int)) = false := by simp; omega
 clear hl hl2 hn hm hr
 have HT := zh (PsBox.new w (h : Int) r l (.slice sp1 n c1) (.slice sp2 m c2))
 have HIP := zh (eI (h := (h : Int)) jG.out)
 go_enter Tryz.func64, Tryz.ntmps64
 go_wp2_with (generalize hw0 : World.alloc (World.alloc w _) _ = w0; have HT0 : Hid (PsBox w (h : Int) r l (.slice sp1 n c1) (.slice sp2 m c2) w0) := (by rw [← hw0]; exact HT.out); clear hw0 HT; refine wpList_load_row rfl 56 _ rfl w.heap.size rfl 56 _ (0, 0) _ HT0.out.k Tryz.underlying56 rfl HIP.out ?_)
 have hs0 : w.heap.size + 2 ≤ w0.heap.size := Nat.le_of_eq HT0.out.z.symm
 refine (gE (h : Int) r w0).mono ?_
 rintro e w2 ⟨rfl, hb⟩
 rw [HV.out]
 have HB2 := zh hb; clear hb
 have HK2 : Hid (w2.heap[w.heap.size]? = some (.cells (pkA (h : Int) r) 56 (0, 0))) := (HB2.out.block _ (by omega)).trans HT0.out.k
 have HS2 : Hid (w2.heap[w.heap.size + 1]? = some (.cells (siA l (.slice sp1 n c1) (.slice sp2 m c2)) 60 (0, 0))) := (HB2.out.block _ (by omega)).trans HT0.out.s
 have k1 := uW HK2.out
 have k2 := rH HS2.out
 have k3 := zH HS2.out
 have k4 := vJ HS2.out
 have hc : h = 0 ∨ h = 1 ∨ h = 2 ∨ h = 3 ∨ h = 4 ∨ h = 5 ∨ h = 6 := by omega
 clear hh
 rcases hc with rfl | rfl | rfl | rfl | rfl | rfl | rfl
 ·have e5 : lvN 0 = 1 := rfl
  have q5 : decide (l < 1) = true := by rw [← e5]; exact q2
  have q6 : ((m : Int) == 0) = false := q4
  clear e5 q2 q4
  go_wp2_with fail
  go_ret
  exact ⟨rfl, HT0.out.b.trans (HB2.out.mono (by omega))⟩
 ·have e5 : lvN 1 = 2 := rfl
  have q5 : decide (l < 2) = true := by rw [← e5]; exact q2
  have q6 : ((m : Int) == 1) = false := q4
  clear e5 q2 q4
  go_wp2_with fail
  go_ret
  exact ⟨rfl, HT0.out.b.trans (HB2.out.mono (by omega))⟩
 ·have e5 : lvN 2 = 4 := rfl
  have q5 : decide (l < 4) = true := by rw [← e5]; exact q2
  have q6 : ((m : Int) == 2) = false := q4
  clear e5 q2 q4
  go_wp2_with fail
  go_ret
  exact ⟨rfl, HT0.out.b.trans (HB2.out.mono (by omega))⟩
 ·have e5 : lvN 3 = 8 := rfl
  have q5 : decide (l < 8) = true := by rw [← e5]; exact q2
  have q6 : ((m : Int) == 3) = false := q4
  clear e5 q2 q4
  go_wp2_with fail
  go_ret
  exact ⟨rfl, HT0.out.b.trans (HB2.out.mono (by omega))⟩
 ·have e5 : lvN 4 = 16 := rfl
  have q5 : decide (l < 16) = true := by rw [← e5]; exact q2
  have q6 : ((m : Int) == 4) = false := q4
  clear e5 q2 q4
  go_wp2_with fail
  go_ret
  exact ⟨rfl, HT0.out.b.trans (HB2.out.mono (by omega))⟩
 ·have e5 : lvN 5 = 32 := rfl
  have q5 : decide (l < 32) = true := by rw [← e5]; exact q2
  have q6 : ((m : Int) == 5) = false := q4
  clear e5 q2 q4
  go_wp2_with fail
  go_ret
  exact ⟨rfl, HT0.out.b.trans (HB2.out.mono (by omega))⟩
 ·have e5 : lvN 6 = 64 := rfl
  have q5 : decide (l < 64) = true := by rw [← e5]; exact q2
  have q6 : ((m : Int) == 6) = false := q4
  clear e5 q2 q4
  go_wp2_with fail
  go_ret
  exact ⟨rfl, HT0.out.b.trans (HB2.out.mono (by omega))⟩
theorem zJ (h : Nat) (r : List Int) (l : Int) (sp1 : Option Addr) (n c1 : Nat) (sp2 : Option Addr) (m c2 : Nat) (w : World) (hr : H16 r) (hh : h ≤ 6) (hl : 0 ≤ l) (hl2 : l < lvN h) (hn : n = 68) (hm : m = h) :
 Calls Tryz.prog 64 #[.agg (pkA (h : Int) r), .agg (siA l (.slice sp1 n c1) (.slice sp2 m c2))] w fun e w' => e = .returned (.bool true) ∧ Below w.heap.size w w' := by
 have jG := zh hr
 have HV : Hid (eK (h : Int) = true) := by show _ = _; unfold eK; simp; omega
 have q1 : decide (0 ≤ l) = true := by simp; omega
 have q2 : decide (l < lvN h) = true := by simp; omega
 have q3 : ((n : Int) == 68) = true := by simp; omega
 have q4 : ((m : Int) == (h : Int)) = true := by simp; omega
 clear hl hl2 hn hm hr
 have HT := zh (PsBox.new w (h : Int) r l (.slice sp1 n c1) (.slice sp2 m c2))
 have HIP := zh (eI (h := (h : Int)) jG.out)
 go_enter Tryz.func64, Tryz.ntmps64
 go_wp2_with (generalize hw0 : World.alloc (World.alloc w _) _ = w0; have HT0 : Hid (PsBox w (h : Int) r l (.slice sp1 n c1) (.slice sp2 m c2) w0) := (by rw [← hw0]; exact HT.out); clear hw0 HT; refine wpList_load_row rfl 56 _ rfl w.heap.size rfl 56 _ (0, 0) _ HT0.out.k Tryz.underlying56 rfl HIP.out ?_)
 have hs0 : w.heap.size + 2 ≤ w0.heap.size := Nat.le_of_eq HT0.out.z.symm
 refine (gE (h : Int) r w0).mono ?_
 rintro e w2 ⟨rfl, hb⟩
 rw [HV.out]
 have HB2 := zh hb; clear hb
 have HK2 : Hid (w2.heap[w.heap.size]? = some (.cells (pkA (h : Int) r) 56 (0, 0))) := (HB2.out.block _ (by omega)).trans HT0.out.k
 have HS2 : Hid (w2.heap[w.heap.size + 1]? = some (.cells (siA l (.slice sp1 n c1) (.slice sp2 m c2)) 60 (0, 0))) := (HB2.out.block _ (by omega)).trans HT0.out.s
 have k1 := uW HK2.out
 have k2 := rH HS2.out
 have k3 := zH HS2.out
 have k4 := vJ HS2.out
 have hc : h = 0 ∨ h = 1 ∨ h = 2 ∨ h = 3 ∨ h = 4 ∨ h = 5 ∨ h = 6 := by omega
 clear hh
 rcases hc with rfl | rfl | rfl | rfl | rfl | rfl | rfl
 ·have e5 : lvN 0 = 1 := rfl
  have q5 : decide (l < 1) = true := by rw [← e5]; exact q2
  have q6 : ((m : Int) == 0) = true := q4
  clear e5 q2 q4
  go_wp2_with fail
  go_ret
  exact ⟨rfl, HT0.out.b.trans (HB2.out.mono (by omega))⟩
 ·have e5 : lvN 1 = 2 := rfl
  have q5 : decide (l < 2) = true := by rw [← e5]; exact q2
  have q6 : ((m : Int) == 1) = true := q4
  clear e5 q2 q4
  go_wp2_with fail
  go_ret
  exact ⟨rfl, HT0.out.b.trans (HB2.out.mono (by omega))⟩
 ·have e5 : lvN 2 = 4 := rfl
  have q5 : decide (l < 4) = true := by rw [← e5]; exact q2
  have q6 : ((m : Int) == 2) = true := q4
  clear e5 q2 q4
  go_wp2_with fail
  go_ret
  exact ⟨rfl, HT0.out.b.trans (HB2.out.mono (by omega))⟩
 ·have e5 : lvN 3 = 8 := rfl
  have q5 : decide (l < 8) = true := by rw [← e5]; exact q2
  have q6 : ((m : Int) == 3) = true := q4
  clear e5 q2 q4
  go_wp2_with fail
  go_ret
  exact ⟨rfl, HT0.out.b.trans (HB2.out.mono (by omega))⟩
 ·have e5 : lvN 4 = 16 := rfl
  have q5 : decide (l < 16) = true := by rw [← e5]; exact q2
  have q6 : ((m : Int) == 4) = true := q4
  clear e5 q2 q4
  go_wp2_with fail
  go_ret
  exact ⟨rfl, HT0.out.b.trans (HB2.out.mono (by omega))⟩
 ·have e5 : lvN 5 = 32 := rfl
  have q5 : decide (l < 32) = true := by rw [← e5]; exact q2
  have q6 : ((m : Int) == 5) = true := q4
  clear e5 q2 q4
  go_wp2_with fail
  go_ret
  exact ⟨rfl, HT0.out.b.trans (HB2.out.mono (by omega))⟩
 ·have e5 : lvN 6 = 64 := rfl
  have q5 : decide (l < 64) = true := by rw [← e5]; exact q2
  have q6 : ((m : Int) == 6) = true := q4
  clear e5 q2 q4
  go_wp2_with fail
  go_ret
  exact ⟨rfl, HT0.out.b.trans (HB2.out.mono (by omega))⟩
theorem sY (h l : Int) (n m : Nat) : (eK h = false ∧ lC h l n m = false) ∨ ∃ k : Nat, h = (k : Int) ∧ k ≤ 6 ∧ ((l < 0 ∧ lC h l n m = false) ∨ (0 ≤ l ∧ lvN k ≤ l ∧ lC h l n m = false) ∨ (0 ≤ l ∧ l < lvN k ∧ n ≠ 68 ∧ lC h l n m = false) ∨ (0 ≤ l ∧ l < lvN k ∧ n = 68 ∧ m ≠ k ∧ lC h l n m = false) ∨ (0 ≤ l ∧ l < lvN k ∧ n = 68 ∧ m = k ∧ lC h l n m = true)) := by
 by_cases hv : 0 ≤ h ∧ h ≤ 6
 ·obtain ⟨k, rfl⟩ : ∃ k : Nat, h = (k : Int) := ⟨h.toNat, by omega⟩
  refine .inr ⟨k, rfl, by omega, ?_⟩
  have e : ((k : Int)).toNat = k := by omega
  by_cases h1 : 0 ≤ l
  ·by_cases h2 : l < lvN k
   ·by_cases h3 : n = 68
    ·by_cases h4 : m = k
     ·refine .inr (.inr (.inr (.inr ⟨h1, h2, h3, h4, ?_⟩)))
      unfold lC; rw [e, decide_eq_true]; exact ⟨hv, h1, h2, h3, by omega⟩
     ·refine .inr (.inr (.inr (.inl ⟨h1, h2, h3, h4, ?_⟩)))
      unfold lC; rw [e, decide_eq_false]; rintro ⟨_, _, _, _, h⟩; omega
    ·refine .inr (.inr (.inl ⟨h1, h2, h3, ?_⟩))
     unfold lC; rw [e, decide_eq_false]; rintro ⟨_, _, _, h, _⟩; omega
   ·refine .inr (.inl ⟨h1, by omega, ?_⟩)
    unfold lC; rw [e, decide_eq_false]; rintro ⟨_, _, h, _⟩; omega
  ·refine .inl ⟨by omega, ?_⟩
   unfold lC; rw [decide_eq_false]; rintro ⟨_, h, _⟩; omega
 ·refine .inl ⟨by unfold eK; rw [decide_eq_false hv], ?_⟩
  unfold lC; rw [decide_eq_false]; rintro ⟨h, _⟩; exact hv h
theorem mE (h : Int) (r : List Int) (l : Int) (sp1 : Option Addr) (n c1 : Nat) (sp2 : Option Addr) (m c2 : Nat) (w : World) (hr : H16 r) :
 Calls Tryz.prog 87 #[.agg (pkA h r), .agg (siA l (.slice sp1 n c1) (.slice sp2 m c2))] w fun e w' => e = .returned (.bool (lC h l n m)) ∧ Below w.heap.size w w' := by
 rcases sY h l n m with ⟨hv, e⟩ | ⟨k, rfl, hk, ⟨h1, e⟩ | ⟨h1, h2, e⟩ | ⟨h1, h2, h3, e⟩ | ⟨h1, h2, h3, h4, e⟩ | ⟨h1, h2, h3, h4, e⟩⟩ <;> rw [e]
 ·exact BK h r l sp1 n c1 sp2 m c2 w hr hv
 ·exact BJ k r l sp1 n c1 sp2 m c2 w hr hk h1
 ·exact BI k r l sp1 n c1 sp2 m c2 w hr hk h1 h2
 ·exact BH k r l sp1 n c1 sp2 m c2 w hr hk h1 h2 h3
 ·exact BG k r l sp1 n c1 sp2 m c2 w hr hk h1 h2 h3 h4
 ·exact BF k r l sp1 n c1 sp2 m c2 w hr hk h1 h2 h3 h4
theorem vO (h : Int) (r : List Int) (l : Int) (sp1 : Option Addr) (n c1 : Nat) (sp2 : Option Addr) (m c2 : Nat) (w : World) (hr : H16 r) :
 Calls Tryz.prog 64 #[.agg (pkA h r), .agg (siA l (.slice sp1 n c1) (.slice sp2 m c2))] w fun e w' => e = .returned (.bool (lC h l n m)) ∧ Below w.heap.size w w' := by
 rcases sY h l n m with ⟨hv, e⟩ | ⟨k, rfl, hk, ⟨h1, e⟩ | ⟨h1, h2, e⟩ | ⟨h1, h2, h3, e⟩ | ⟨h1, h2, h3, h4, e⟩ | ⟨h1, h2, h3, h4, e⟩⟩ <;> rw [e]
 ·exact zO h r l sp1 n c1 sp2 m c2 w hr hv
 ·exact zN k r l sp1 n c1 sp2 m c2 w hr hk h1
 ·exact zM k r l sp1 n c1 sp2 m c2 w hr hk h1 h2
 ·exact zL k r l sp1 n c1 sp2 m c2 w hr hk h1 h2 h3
 ·exact zK k r l sp1 n c1 sp2 m c2 w hr hk h1 h2 h3 h4
 ·exact zJ k r l sp1 n c1 sp2 m c2 w hr hk h1 h2 h3 h4
end Go.Proofs.YtcligodahogpkaaGreatDoor
