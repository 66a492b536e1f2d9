/-
  The walk of the statement SnapshotComposes (conditions: digests of 32 bytes).
-/
import Derived.Test.YtecllfbadciaoaaGreatDoorZip
import Derived.Test.YtecllfbadciaoaaGreatDoorSnT
set_option maxRecDepth 100000
set_option maxHeartbeats 8000000
namespace Go.Proofs.YtecllfbadciaoaaGreatDoor
open Go.RowKit
def vC : Except Int (List Cg) → List Cg × Int
 | .error k => ([], k)
 | .ok l => (l, 0)
theorem ResC.uni {w w' : World} {r : Except Int (List Cg)} {e : Ending} (h : ResC w r e w') : ∃ sp n cap, e = .returned (.tuple #[.slice sp n cap, .int .i64 (vC r).2]) ∧ CgsIn w' w'.heap.size sp n cap (vC r).1 ∧ Below w.heap.size w w' := by
 cases r with
 | error k =>
   obtain ⟨he, hb⟩ := h
   exact ⟨none, 0, 0, he, ⟨rfl, fun x hx => (by cases hx), fun h => by omega⟩, hb⟩
 | ok l =>
   obtain ⟨sp, cap, he, ho, hb⟩ := h
   exact ⟨sp, l.length, cap, he, ho.cgs rfl, hb⟩
structure IntsT (w : World) (B : Nat) (sp : Option Addr) (n cap : Nat) (l : List Int) : Prop where
 len : l.length = n
 cells : 0 < n → ∃ b off, sp = some ⟨b, off, none⟩ ∧ b < B ∧ n ≤ cap ∧ ∀ i v, l[i]? = some v → w.cell? ⟨b, off + i, none⟩ = some (.int .i64 v)
 wide : ∀ v ∈ l, -9223372036854775808 ≤ v ∧ v ≤ 9223372036854775807
 short : n ≤ 9223372036854775807
theorem IntsT.tape {w : World} {sp : Option Addr} {n cap : Nat} {l : List Int} (h : IntsT w w.heap.size sp n cap l) : TpIn (w.alloc (.cells #[.slice sp n cap, .int .i64 0] 35)) w.heap.size sp n cap l 0 :=
 ⟨heap_alloc_new w _, h.len, fun hn => by
  obtain ⟨b, off, e, hlt, hc, hr⟩ := h.cells hn
  exact ⟨b, off, e, hlt, hc, fun i v hi => (((Below.refl w.heap.size w).alloc (Nat.le_refl _) _).cell (p := ⟨b, off + i, none⟩) hlt).trans (hr i v hi)⟩, h.wide, h.short⟩
structure EnX (w : World) (sp : Option Addr) (n cap : Nat) (l : List En) : Prop where
 i : EnsIn w w.heap.size sp n cap l
theorem EnX.of {w : World} {sp : Option Addr} {n cap : Nat} {l : List En} (h : EnsIn w w.heap.size sp n cap l) : EnX w sp n cap l := ⟨h⟩
theorem EnX.below {w w' : World} {sp : Option Addr} {n cap : Nat} {l : List En} (h : EnX w sp n cap l) (hb : Below w.heap.size w w') : EnX w' sp n cap l := ⟨h.i.upR hb⟩
theorem EnX.setRow {w : World} {g : Nat} {cs : Array Value} {t : TypeId} {sp : Option Addr} {n cap : Nat} {l : List En} (h : EnX w sp n cap l) (hg : w.heap[g]? = some (.cells cs t (0, 0))) (hn : noIntT cs = true) (ds : Array Value) : EnX (w.setRow g ds) sp n cap l :=
 ⟨by rw [setRow_size]; exact EnsIn.setT hg hn h.i⟩
def LkAns (x : Rc) (w : World) (e : Ending) (w' : World) : Prop := ∃ p1 c1 p2 c2, e = .returned (.agg (lkL x.stp (.slice p1 x.mn c1) (.slice p2 x.pn c2)).toArray) ∧ Hid (EnsIn w' w'.heap.size p1 x.mn c1 x.m) ∧ Hid (EnsIn w' w'.heap.size p2 x.pn c2 x.p) ∧ Below w.heap.size w w'
theorem rlinkR_any (x : Rc) (w : World) (hx : RcIn x w) : Calls Tryz.prog 17 #[.agg x.L.toArray] w (LkAns x w) := by
 have hb0 : Below w.heap.size w (w.alloc (.cells x.L.toArray 31)) := (Below.refl _ _).alloc (Nat.le_refl _) _
 have HRZ : Hid ((w.alloc (.cells x.L.toArray 31)).heap[w.heap.size]? = some (.cells x.L.toArray 31 (0, 0))) := heap_alloc_new _ _
 have HX := zh (hx.below hb0); have HBZ := zh hb0
 have hlt : w.heap.size < (w.alloc (.cells x.L.toArray 31)).heap.size := by simp
 have HLT := zh hlt
 clear hx hb0 hlt
 go_enter Tryz.func17, Tryz.ntmps17
 go_upto_region 1 with fail
 have hsz : (World.alloc w (.cells x.L.toArray 31)).heap.size = w.heap.size + 1 := by simp
 generalize World.alloc w (.cells x.L.toArray 31) = wz at *
 have HB0 : Hid (Below wz.heap.size wz (wz.alloc (.cells zLk 46))) := (Below.refl _ _).alloc (Nat.le_refl _) _
 have HL0 : Hid ((wz.alloc (.cells zLk 46)).heap[wz.heap.size]? = some (.cells zLk 46 (0, 0))) := heap_alloc_new _ _
 generalize hw0 : World.alloc wz _ = w0
 have HB1 : Hid (Below wz.heap.size wz w0) := by rw [← hw0]; exact HB0.out
 have HL1 : Hid (w0.heap[wz.heap.size]? = some (.cells zLk 46 (0, 0))) := by rw [← hw0]; exact HL0.out
 have HR1 : Hid (w0.heap[w.heap.size]? = some (.cells x.L.toArray 31 (0, 0))) := (HB1.out.block _ HLT.out).trans HRZ.out
 have HX1 := zh (HX.out.below HB1.out)
 clear hw0 HB0 HL0 HRZ HX HLT
 have HBG : Hid (w.heap.size ≤ wz.heap.size) := HBZ.out.size
 have HBY : Hid (Below w.heap.size w w0) := HBZ.out.trans (HB1.out.mono HBZ.out.size)
 clear HBZ HB1
 generalize hgl : wz.heap.size = gl at *
 rw [← hsz]
 clear hsz hgl
 have c2 : w0.cell? ⟨w.heap.size, 2, none⟩ = some (.string x.stp) := heap_cellR HR1.out rfl
 have c6 : w0.cell? ⟨w.heap.size, 6, none⟩ = some (.slice x.m1 x.mn x.mc) := heap_cellR HR1.out rfl
 have c7 : w0.cell? ⟨w.heap.size, 7, none⟩ = some (.slice x.p1 x.pn x.pc) := heap_cellR HR1.out rfl
 have hbl := buildLk x.stp x.m1 x.mn x.mc x.p1 x.pn x.pc w0
 have HB2 : Hid (Below w.heap.size w (w0.setRow gl (lkL x.stp (.slice x.m1 x.mn x.mc) (.slice x.p1 x.pn x.pc)).toArray)) := below_setRow HBY.out HBG.out _
 have HX2 : Hid (EnX (w0.setRow gl (lkL x.stp (.slice x.m1 x.mn x.mc) (.slice x.p1 x.pn x.pc)).toArray) x.m1 x.mn x.mc x.m) := (EnX.of HX1.out.m).setRow HL1.out (by decide) _
 have HX3 : Hid (EnX (w0.setRow gl (lkL x.stp (.slice x.m1 x.mn x.mc) (.slice x.p1 x.pn x.pc)).toArray) x.p1 x.pn x.pc x.p) := (EnX.of HX1.out.p).setRow HL1.out (by decide) _
 have HR2 : Hid ((w0.setRow gl (lkL x.stp (.slice x.m1 x.mn x.mc) (.slice x.p1 x.pn x.pc)).toArray).heap[gl]? = some (.cells (lkL x.stp (.slice x.m1 x.mn x.mc) (.slice x.p1 x.pn x.pc)).toArray 46 (0, 0))) := setRow_heap _ _ _ _ _ _ HL1.out
 clear HX1 HR1
 go_wp2_with (refine wpList_store_row rfl 46 _ _ rfl gl (lkL x.stp (.slice x.m1 x.mn x.mc) (.slice x.p1 x.pn x.pc)).toArray rfl rfl 46 _ HL1.out (infoLkA _ _ _) rfl (oneLk _ _ _ _ _ _ _) ?_)
 refine bodyPost_ret (results_row1 rfl _ _ _ _ _ _ _ rfl HR2.out Tryz.underlying46 rfl (infoLkA _ _ _)) rfl ?_
 exact ⟨_, _, _, _, rfl, HX2.out.i, HX3.out.i, HB2.out⟩
theorem Snap.vld {l : List En} (h : Snap l) (hl : l.length ≤ 64) : vldE l = true := by
 unfold vldE
 rw [Bool.and_eq_true, Bool.and_eq_true]
 refine ⟨⟨by simpa using hl, ?_⟩, (ascB_iff l).2 h.srt⟩
 rw [Bool.not_eq_true', List.any_eq_false]
 intro x hx
 unfold badE
 rw [decide_eq_false (h.some x hx), h.path x hx]; simp
def vE : Except Int (List En) → List En × Int
 | .error k => ([], k)
 | .ok l => (l, 0)
theorem ResE.uni {w w' : World} {r : Except Int (List En)} {e : Ending} (h : ResE w r e w') : ∃ sp n cap, e = .returned (.tuple #[.slice sp n cap, .int .i64 (vE r).2]) ∧ EnsIn w' w'.heap.size sp n cap (vE r).1 ∧ Below w.heap.size w w' := by
 cases r with
 | error k =>
   obtain ⟨he, hb⟩ := h
   exact ⟨none, 0, 0, he, ⟨rfl, fun x hx => (by cases hx), fun h => by omega⟩, hb⟩
 | ok l =>
   obtain ⟨sp, cap, he, ho, hb⟩ := h
   exact ⟨sp, l.length, cap, he, ho.ens rfl, hb⟩
end Go.Proofs.YtecllfbadciaoaaGreatDoor
