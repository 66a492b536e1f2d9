/-
  The walk of RecordLinks (conditions: the record and the tape stand in memory; the table of powers of ten reads as it is laid).
-/
import Derived.Test.YtecllfbadciaoaaGreatDoorZip
import Derived.Test.YtecllfbadciaoaaGreatDoorRecV
import Derived.Test.YtecllfbadciaoaaGreatDoorQ20
set_option maxRecDepth 100000
set_option maxHeartbeats 8000000
namespace Go.Proofs.YtecllfbadciaoaaGreatDoor
open Go.RowKit
theorem sameLinkR_any (s : ByteArray) (p1 : Option Addr) (n1 c1 : Nat) (a : List En) (p2 : Option Addr) (n2 c2 : Nat) (b : List En) (q1 : Option Addr) (d1 : Nat) (q2 : Option Addr) (d2 : Nat) (w : World)
 (h1 : EnsIn w w.heap.size p1 n1 c1 a) (h2 : EnsIn w w.heap.size p2 n2 c2 b) (h3 : EnsIn w w.heap.size q1 n1 d1 a) (h4 : EnsIn w w.heap.size q2 n2 d2 b) (hn1 : n1 ≤ 1000) (hn2 : n2 ≤ 1000) :
 Calls Tryz.prog 18 #[.agg (lkL s (.slice p1 n1 c1) (.slice p2 n2 c2)).toArray, .agg (lkL s (.slice q1 n1 d1) (.slice q2 n2 d2)).toArray] w fun e w' => e = .returned (.bool true) ∧ Below w.heap.size w w' := by
 have hb0 : Below w.heap.size w (w.alloc (.cells (lkL s (.slice p1 n1 c1) (.slice p2 n2 c2)).toArray 46)) := (Below.refl _ _).alloc (Nat.le_refl _) _
 have hr0 : (w.alloc (.cells (lkL s (.slice p1 n1 c1) (.slice p2 n2 c2)).toArray 46)).heap[w.heap.size]? = some (.cells (lkL s (.slice p1 n1 c1) (.slice p2 n2 c2)).toArray 46 (0, 0)) := heap_alloc_new _ _
 have hlt : w.heap.size < (w.alloc (.cells (lkL s (.slice p1 n1 c1) (.slice p2 n2 c2)).toArray 46)).heap.size := by simp
 have HB0 := zh hb0; have HR0 := zh hr0; have HLT := zh hlt
 clear hb0 hr0 hlt
 have H1 := zh h1; have H2 := zh h2; have H3 := zh h3; have H4 := zh h4
 clear h1 h2 h3 h4
 go_enter Tryz.func18, Tryz.ntmps18
 go_upto_region 1 with fail
 have hsz : (World.alloc w (.cells (lkL s (.slice p1 n1 c1) (.slice p2 n2 c2)).toArray 46)).heap.size = w.heap.size + 1 := by simp
 generalize World.alloc w (.cells (lkL s (.slice p1 n1 c1) (.slice p2 n2 c2)).toArray 46) = w0 at *
 have HB1' : Hid (Below w0.heap.size w0 (w0.alloc (.cells (lkL s (.slice q1 n1 d1) (.slice q2 n2 d2)).toArray 46))) := (Below.refl _ _).alloc (Nat.le_refl _) _
 have HR1' : Hid ((w0.alloc (.cells (lkL s (.slice q1 n1 d1) (.slice q2 n2 d2)).toArray 46)).heap[w0.heap.size]? = some (.cells (lkL s (.slice q1 n1 d1) (.slice q2 n2 d2)).toArray 46 (0, 0))) := heap_alloc_new _ _
 have HG1' : Hid (w0.heap.size < (w0.alloc (.cells (lkL s (.slice q1 n1 d1) (.slice q2 n2 d2)).toArray 46)).heap.size) := by show _ < _; simp
 generalize World.alloc w0 (.cells (lkL s (.slice q1 n1 d1) (.slice q2 n2 d2)).toArray 46) = w1 at *
 have HRA : Hid (w1.heap[w.heap.size]? = some (.cells (lkL s (.slice p1 n1 c1) (.slice p2 n2 c2)).toArray 46 (0, 0))) := (HB1'.out.block _ HLT.out).trans HR0.out
 have HB1 : Hid (Below w.heap.size w w1) := HB0.out.trans (HB1'.out.mono HB0.out.size)
 have HLT1 : Hid (w.heap.size < w1.heap.size) := Nat.lt_of_lt_of_le HLT.out HB1'.out.size
 obtain ⟨g0, hg0⟩ : ∃ g0, g0 = w0.heap.size := ⟨_, rfl⟩
 rw [← hg0] at HR1' HG1'
 rw [hsz] at hg0
 rw [← hg0]
 clear hg0 hsz HB1' HR0 HLT HB0
 have a0 : w1.cell? ⟨w.heap.size, 0, none⟩ = some (.string s) := heap_cellR HRA.out rfl
 have a1 : w1.cell? ⟨w.heap.size, 1, none⟩ = some (.slice p1 n1 c1) := heap_cellR HRA.out rfl
 have b0 : w1.cell? ⟨g0, 0, none⟩ = some (.string s) := heap_cellR HR1'.out rfl
 have b1 : w1.cell? ⟨g0, 1, none⟩ = some (.slice q1 n1 d1) := heap_cellR HR1'.out rfl
 have HS1 := zh (sameE_any p1 n1 c1 a q1 n1 d1 a w1 (H1.out.upR HB1.out) (H3.out.upR HB1.out) (by omega))
 have hda : decide (a = a) = true := decide_eq_true rfl
 rw [hda] at HS1
 go_wp2_with fail
 refine HS1.out.mono ?_
 rintro e w2 ⟨rfl, hb⟩
 have HB2 : Hid (Below w.heap.size w w2) := HB1.out.trans (hb.mono HB1.out.size)
 have a2 : w2.cell? ⟨w.heap.size, 2, none⟩ = some (.slice p2 n2 c2) := heap_cellR ((hb.block _ HLT1.out).trans HRA.out) rfl
 have b2 : w2.cell? ⟨g0, 2, none⟩ = some (.slice q2 n2 d2) := heap_cellR ((hb.block _ HG1'.out).trans HR1'.out) rfl
 have HS2 := zh (sameE_any p2 n2 c2 b q2 n2 d2 b w2 (H2.out.upR HB2.out) (H4.out.upR HB2.out) (by omega))
 have hdb : decide (b = b) = true := decide_eq_true rfl
 rw [hdb] at HS2
 clear hb HS1 a0 a1 b0 b1 hda hdb HRA HR1' HB1
 go_wp2_with fail
 refine HS2.out.mono ?_
 rintro e w3 ⟨rfl, hb⟩
 have HB3 : Hid (Below w.heap.size w w3) := HB2.out.trans (hb.mono HB2.out.size)
 clear hb HS2 a2 b2
 go_wp2_with fail
 go_ret
 exact ⟨rfl, HB3.out⟩
end Go.Proofs.YtecllfbadciaoaaGreatDoor
