/-
  The walk of the statement SnapshotComposes (conditions: digests of 32 bytes).
-/
import Derived.Test.YtecllfbadciaoaaGreatDoorZip
import Derived.Test.YtecllfbadciaoaaGreatDoorSnT
set_option maxRecDepth 100000
set_option maxHeartbeats 8000000
namespace Go.Proofs.YtecllfbadciaoaaGreatDoor
open Go.RowKit
def vC : Except Int (List Cg) → List Cg × Int
 | .error k => ([], k)
 | .ok l => (l, 0)
theorem ResC.uni {w w' : World} {r : Except Int (List Cg)} {e : Ending} (h : ResC w r e w') : ∃ sp n cap, e = .returned (.tuple #[.slice sp n cap, .int .i64 (vC r).2]) ∧ CgsIn w' w'.heap.size sp n cap (vC r).1 ∧ Below w.heap.size w w' := by
 cases r with
 | error k =>
   obtain ⟨he, hb⟩ := h
   exact ⟨none, 0, 0, he, ⟨rfl, fun x hx => (by cases hx), fun h => by omega⟩, hb⟩
 | ok l =>
   obtain ⟨sp, cap, he, ho, hb⟩ := h
   exact ⟨sp, l.length, cap, he, ho.cgs rfl, hb⟩
structure IntsT (w : World) (B : Nat) (sp : Option Addr) (n cap : Nat) (l : List Int) : Prop where
 len : l.length = n
 cells : 0 < n → ∃ b off, sp = some ⟨b, off, none⟩ ∧ b < B ∧ n ≤ cap ∧ ∀ i v, l[i]? = some v → w.cell? ⟨b, off + i, none⟩ = some (.int .i64 v)
 wide : ∀ v ∈ l, -9223372036854775808 ≤ v ∧ v ≤ 9223372036854775807
 short : n ≤ 9223372036854775807
theorem IntsT.tape {w : World} {sp : Option Addr} {n cap : Nat} {l : List Int} (h : IntsT w w.heap.size sp n cap l) : TpIn (w.alloc (.cells #[.slice sp n cap, .int .i64 0] 35)) w.heap.size sp n cap l 0 :=
 ⟨heap_alloc_new w _, h.len, fun hn => by
  obtain ⟨b, off, e, hlt, hc, hr⟩ := h.cells hn
  exact ⟨b, off, e, hlt, hc, fun i v hi => (((Below.refl w.heap.size w).alloc (Nat.le_refl _) _).cell (p := ⟨b, off + i, none⟩) hlt).trans (hr i v hi)⟩, h.wide, h.short⟩
theorem fold_insF_len {α β : Type} (g : β → ByteArray) (h : α → Option β) : ∀ (l : List α) (out : List β), (l.foldl (insF g h) out).length ≤ out.length + l.length
 | [], out => Nat.le_refl _
 | x :: l, out => by
   rw [List.foldl_cons]
   have h1 := fold_insF_len g h l (insF g h out x)
   have h2 : (insF g h out x).length ≤ out.length + 1 := by
    unfold insF
    split
    ·omega
    ·rw [length_ins]; omega
   rw [List.length_cons]; omega
theorem sDiff_short (a b : List En) : (vC (sDiff a b)).1.length ≤ 1000 := by
 rw [← sRDiff_eq]
 unfold sRDiff
 split
 ·rename_i h
  rw [Bool.and_eq_true] at h
  have h1 := (vldE_parts h.1).1
  have h2 := (vldE_parts h.2).1
  show (rdif a b).length ≤ 1000
  unfold rdif
  have h3 := fold_insF_len Cg.p (hD2 a) b (a.foldl (insF Cg.p (hD1 b)) [])
  have h4 := fold_insF_len Cg.p (hD1 b) a []
  simp only [List.length_nil] at h4
  omega
 ·simp [vC]
structure EnX (w : World) (sp : Option Addr) (n cap : Nat) (l : List En) : Prop where
 i : EnsIn w w.heap.size sp n cap l
theorem EnX.of {w : World} {sp : Option Addr} {n cap : Nat} {l : List En} (h : EnsIn w w.heap.size sp n cap l) : EnX w sp n cap l := ⟨h⟩
theorem EnX.below {w w' : World} {sp : Option Addr} {n cap : Nat} {l : List En} (h : EnX w sp n cap l) (hb : Below w.heap.size w w') : EnX w' sp n cap l := ⟨h.i.upR hb⟩
theorem EnX.setRow {w : World} {g : Nat} {cs : Array Value} {t : TypeId} {sp : Option Addr} {n cap : Nat} {l : List En} (h : EnX w sp n cap l) (hg : w.heap[g]? = some (.cells cs t (0, 0))) (hn : noIntT cs = true) (ds : Array Value) : EnX (w.setRow g ds) sp n cap l :=
 ⟨by rw [setRow_size]; exact EnsIn.setT hg hn h.i⟩
def LkAns (x : Rc) (w : World) (e : Ending) (w' : World) : Prop := ∃ p1 c1 p2 c2, e = .returned (.agg (lkL x.stp (.slice p1 x.mn c1) (.slice p2 x.pn c2)).toArray) ∧ Hid (EnsIn w' w'.heap.size p1 x.mn c1 x.m) ∧ Hid (EnsIn w' w'.heap.size p2 x.pn c2 x.p) ∧ Below w.heap.size w w'
theorem linkR_any (x : Rc) (w : World) (hx : RcIn x w) : Calls Tryz.prog 14 #[.agg x.L.toArray] w (LkAns x w) := by
 have hb0 : Below w.heap.size w (w.alloc (.cells x.L.toArray 31)) := (Below.refl _ _).alloc (Nat.le_refl _) _
 have HRZ : Hid ((w.alloc (.cells x.L.toArray 31)).heap[w.heap.size]? = some (.cells x.L.toArray 31 (0, 0))) := heap_alloc_new _ _
 have HX := zh (hx.below hb0); have HBZ := zh hb0; have HBD := zh hx.b
 clear hx hb0
 go_enter Tryz.func14, Tryz.ntmps14
 go_upto_region 1 with fail
 have hsz : (World.alloc w (.cells x.L.toArray 31)).heap.size = w.heap.size + 1 := by simp
 generalize World.alloc w (.cells x.L.toArray 31) = wz at *
 obtain ⟨B, hB⟩ : ∃ B, B = wz.heap.size := ⟨_, rfl⟩
 have HBE := zh hB
 have HLT : Hid (w.heap.size < B) := by show _ < _; rw [hB]; exact (Array.getElem?_eq_some_iff.1 HRZ.out).1
 have HSz : Hid (Blks B wz wz []) := Blks.start (Below.refl _ _) (Nat.le_of_eq hB)
 obtain ⟨gl, w0, hg, hw, HSw0, HE0⟩ := HSz.out.allocd (.cells zLk 46 (0, 0))
 go_simp
 rw [hsz] at hg
 try rw [hg]
 generalize hq : World.alloc wz _ = q
 obtain rfl : w0 = q := hw.symm.trans hq
 clear hg hw hq HSz HE0 hB hsz
 have HC1 : Hid (∀ w', Below B wz w' → Calls Tryz.prog 42 #[.slice x.m1 x.mn x.mc] w' fun e w'' => ∃ sp' cap', e = .returned (.slice sp' x.mn cap') ∧ Hid (EnsIn w'' w''.heap.size sp' x.mn cap' x.m) ∧ Below w'.heap.size w' w'') := fun w' hb =>
  cloneE_any x.m1 x.mn x.mc x.m w' (HX.out.below (by rw [← HBE.out]; exact hb)).m (by have := HBD.out.2.2.2.2.2.1; omega)
 have HC2 : Hid (∀ w', Below B wz w' → Calls Tryz.prog 42 #[.slice x.p1 x.pn x.pc] w' fun e w'' => ∃ sp' cap', e = .returned (.slice sp' x.pn cap') ∧ Hid (EnsIn w'' w''.heap.size sp' x.pn cap' x.p) ∧ Below w'.heap.size w' w'') := fun w' hb =>
  cloneE_any x.p1 x.pn x.pc x.p w' (HX.out.below (by rw [← HBE.out]; exact hb)).p (by have := HBD.out.2.2.2.2.2.2; omega)
 clear HX HBD
 refine wp_region_held_drew (S := fun w' => Below B wz w') (by kernel_rfl) HSw0.out.b.drew (fun hHeld => ?_)
 refine zv 0 rfl ?_
 refine zx 1 rfl (v := ?_) ?_ ?_; rotate_left
 ·intro w' hSw; have ce := (heap_cellR ((hSw.block _ HLT.out).trans HRZ.out) rfl : w'.cell? ⟨w.heap.size, 2, none⟩ = some (.string x.stp)); go_simp; try with_reducible rfl
 refine zv 2 rfl ?_
 refine zx 3 rfl (v := ?_) ?_ ?_; rotate_left
 ·intro w' hSw; have ce := (heap_cellR ((hSw.block _ HLT.out).trans HRZ.out) rfl : w'.cell? ⟨w.heap.size, 6, none⟩ = some (.slice x.m1 x.mn x.mc)); go_simp; try with_reducible rfl
 refine zv 5 rfl ?_
 refine zx 6 rfl (v := ?_) ?_ ?_; rotate_left
 ·intro w' hSw; have ce := (heap_cellR ((hSw.block _ HLT.out).trans HRZ.out) rfl : w'.cell? ⟨w.heap.size, 7, none⟩ = some (.slice x.p1 x.pn x.pc)); go_simp; try with_reducible rfl
 refine zr 4 rfl (fun K hK => ?_)
 go_simp
 with_reducible refine (HC1.out _ (HSw0.out.drew).b).mono ?_
 rintro e v1 ⟨p1, c1, rfl, he1, hb⟩
 have HSv1 := zh (HSw0.out.call ((Below.refl _ _).drew.trans hb))
 have HEav1 := zh (EnX.of he1.out)
 clear he1
 clear hb
 go_wp2_with fail
 refine hK.out _ _ HSv1.out.b fun _ => ?_; clear hK K
 refine zr 7 rfl (fun K hK => ?_)
 go_simp
 with_reducible refine (HC2.out _ (HSv1.out).b).mono ?_
 rintro e v2 ⟨p2, c2, rfl, he2, hb⟩
 have HSv2 := zh (HSv1.out.call hb)
 have HEav2 := zh (HEav1.out.below hb)
 have HEbv2 := zh (EnX.of he2.out)
 clear he2
 clear hb
 go_wp2_with fail
 refine hK.out _ _ HSv2.out.b fun _ => ?_; clear hK K
 refine zk 8 rfl (v := _) (yieldsIf_buildS (by rfl) 46 [(0, .tmp 4), (1, .tmp 7), (2, .tmp 10)] rfl [(0, .string x.stp), (1, .slice p1 x.mn c1), (2, .slice p2 x.pn c2)] rfl _ (fun w' _ => buildLk x.stp p1 x.mn c1 p2 x.pn c2 w')) ?rest8n7
 try simp only [Act.put, zuA, zuB, zuC, zuD, zuY, zuF]
 refine zr 9 rfl (fun K hK => ?_)
 rw [if_pos (by rfl)]
 refine wp_store_row 46 _ _ rfl gl (lkL x.stp (.slice p1 x.mn c1) (.slice p2 x.pn c2)).toArray rfl rfl 46 _ (HSv2.out.at 0 rfl) (infoLkA _ _ _) rfl (oneLk _ _ _ _ _ _ _) ?_
 generalize hw : World.setRow v2 _ _ = v3
 have HSv3 := zh (HSv2.out.set 0 rfl (lkL x.stp (.slice p1 x.mn c1) (.slice p2 x.pn c2)).toArray)
 rw [hw] at HSv3
 have HEav3 := zh (HEav2.out.setRow (HSv2.out.at 0 rfl) (by decide) (lkL x.stp (.slice p1 x.mn c1) (.slice p2 x.pn c2)).toArray)
 rw [hw] at HEav3
 have HEbv3 := zh (HEbv2.out.setRow (HSv2.out.at 0 rfl) (by decide) (lkL x.stp (.slice p1 x.mn c1) (.slice p2 x.pn c2)).toArray)
 rw [hw] at HEbv3
 clear hw
 refine hK.out _ _ HSv3.out.b fun _ => ?_; clear hK K
 refine zd ?_ _
 go_wp2_with fail
 refine bodyPost_ret (results_row1 rfl _ _ _ _ _ _ _ rfl (HSv3.out.at 0 rfl) Tryz.underlying46 rfl (infoLkA _ _ _)) rfl ?_
 exact ⟨p1, c1, p2, c2, rfl, HEav3.out.i, HEbv3.out.i, HBZ.out.trans (show Below w.heap.size wz v3 from HSv3.out.b.mono (by rw [HBE.out]; exact HBZ.out.size))⟩
theorem rlinkR_any (x : Rc) (w : World) (hx : RcIn x w) : Calls Tryz.prog 17 #[.agg x.L.toArray] w (LkAns x w) := by
 have hb0 : Below w.heap.size w (w.alloc (.cells x.L.toArray 31)) := (Below.refl _ _).alloc (Nat.le_refl _) _
 have HRZ : Hid ((w.alloc (.cells x.L.toArray 31)).heap[w.heap.size]? = some (.cells x.L.toArray 31 (0, 0))) := heap_alloc_new _ _
 have HX := zh (hx.below hb0); have HBZ := zh hb0
 have hlt : w.heap.size < (w.alloc (.cells x.L.toArray 31)).heap.size := by simp
 have HLT := zh hlt
 clear hx hb0 hlt
 go_enter Tryz.func17, Tryz.ntmps17
 go_upto_region 1 with fail
 have hsz : (World.alloc w (.cells x.L.toArray 31)).heap.size = w.heap.size + 1 := by simp
 generalize World.alloc w (.cells x.L.toArray 31) = wz at *
 have HB0 : Hid (Below wz.heap.size wz (wz.alloc (.cells zLk 46))) := (Below.refl _ _).alloc (Nat.le_refl _) _
 have HL0 : Hid ((wz.alloc (.cells zLk 46)).heap[wz.heap.size]? = some (.cells zLk 46 (0, 0))) := heap_alloc_new _ _
 generalize hw0 : World.alloc wz _ = w0
 have HB1 : Hid (Below wz.heap.size wz w0) := by rw [← hw0]; exact HB0.out
 have HL1 : Hid (w0.heap[wz.heap.size]? = some (.cells zLk 46 (0, 0))) := by rw [← hw0]; exact HL0.out
 have HR1 : Hid (w0.heap[w.heap.size]? = some (.cells x.L.toArray 31 (0, 0))) := (HB1.out.block _ HLT.out).trans HRZ.out
 have HX1 := zh (HX.out.below HB1.out)
 clear hw0 HB0 HL0 HRZ HX HLT
 have HBG : Hid (w.heap.size ≤ wz.heap.size) := HBZ.out.size
 have HBY : Hid (Below w.heap.size w w0) := HBZ.out.trans (HB1.out.mono HBZ.out.size)
 clear HBZ HB1
 generalize hgl : wz.heap.size = gl at *
 rw [← hsz]
 clear hsz hgl
 have c2 : w0.cell? ⟨w.heap.size, 2, none⟩ = some (.string x.stp) := heap_cellR HR1.out rfl
 have c6 : w0.cell? ⟨w.heap.size, 6, none⟩ = some (.slice x.m1 x.mn x.mc) := heap_cellR HR1.out rfl
 have c7 : w0.cell? ⟨w.heap.size, 7, none⟩ = some (.slice x.p1 x.pn x.pc) := heap_cellR HR1.out rfl
 have hbl := buildLk x.stp x.m1 x.mn x.mc x.p1 x.pn x.pc w0
 have HB2 : Hid (Below w.heap.size w (w0.setRow gl (lkL x.stp (.slice x.m1 x.mn x.mc) (.slice x.p1 x.pn x.pc)).toArray)) := below_setRow HBY.out HBG.out _
 have HX2 : Hid (EnX (w0.setRow gl (lkL x.stp (.slice x.m1 x.mn x.mc) (.slice x.p1 x.pn x.pc)).toArray) x.m1 x.mn x.mc x.m) := (EnX.of HX1.out.m).setRow HL1.out (by decide) _
 have HX3 : Hid (EnX (w0.setRow gl (lkL x.stp (.slice x.m1 x.mn x.mc) (.slice x.p1 x.pn x.pc)).toArray) x.p1 x.pn x.pc x.p) := (EnX.of HX1.out.p).setRow HL1.out (by decide) _
 have HR2 : Hid ((w0.setRow gl (lkL x.stp (.slice x.m1 x.mn x.mc) (.slice x.p1 x.pn x.pc)).toArray).heap[gl]? = some (.cells (lkL x.stp (.slice x.m1 x.mn x.mc) (.slice x.p1 x.pn x.pc)).toArray 46 (0, 0))) := setRow_heap _ _ _ _ _ _ HL1.out
 clear HX1 HR1
 go_wp2_with (refine wpList_store_row rfl 46 _ _ rfl gl (lkL x.stp (.slice x.m1 x.mn x.mc) (.slice x.p1 x.pn x.pc)).toArray rfl rfl 46 _ HL1.out (infoLkA _ _ _) rfl (oneLk _ _ _ _ _ _ _) ?_)
 refine bodyPost_ret (results_row1 rfl _ _ _ _ _ _ _ rfl HR2.out Tryz.underlying46 rfl (infoLkA _ _ _)) rfl ?_
 exact ⟨_, _, _, _, rfl, HX2.out.i, HX3.out.i, HB2.out⟩
theorem changesR_any (s : ByteArray) (p1 : Option Addr) (n1 c1 : Nat) (a : List En) (p2 : Option Addr) (n2 c2 : Nat) (b : List En) (w : World) (ha : EnsIn w w.heap.size p1 n1 c1 a) (hb : EnsIn w w.heap.size p2 n2 c2 b) (h1 : n1 ≤ 100000) (h2 : n2 ≤ 100000) :
 Calls Tryz.prog 15 #[.agg (lkL s (.slice p1 n1 c1) (.slice p2 n2 c2)).toArray] w fun e w' => ∃ sp n cap, e = .returned (.tuple #[.slice sp n cap, .int .i64 (vC (sDiff a b)).2]) ∧ Hid (CgsIn w' w'.heap.size sp n cap (vC (sDiff a b)).1) ∧ Below w.heap.size w w' := by
 have hb0 : Below w.heap.size w (w.alloc (.cells (lkL s (.slice p1 n1 c1) (.slice p2 n2 c2)).toArray 46)) := (Below.refl _ _).alloc (Nat.le_refl _) _
 have HRZ : Hid ((w.alloc (.cells (lkL s (.slice p1 n1 c1) (.slice p2 n2 c2)).toArray 46)).heap[w.heap.size]? = some (.cells (lkL s (.slice p1 n1 c1) (.slice p2 n2 c2)).toArray 46 (0, 0))) := heap_alloc_new _ _
 have HA := zh (ha.upR hb0); have HBb := zh (hb.upR hb0); have HB0 := zh hb0
 clear ha hb hb0
 go_enter Tryz.func15, Tryz.ntmps15
 go_upto_region 1 with fail
 generalize World.alloc w _ = w0 at *
 have HD := zh ((Diff_any p1 n1 c1 a p2 n2 c2 b w0 HA.out HBb.out h1 h2).mono fun e w' h => h.uni)
 have c1' : w0.cell? ⟨w.heap.size, 1, none⟩ = some (.slice p1 n1 c1) := heap_cellR HRZ.out rfl
 have c2' : w0.cell? ⟨w.heap.size, 2, none⟩ = some (.slice p2 n2 c2) := heap_cellR HRZ.out rfl
 clear HA HBb
 go_wp2_with fail
 refine HD.out.mono ?_
 rintro e w1 ⟨sp, n, cap, rfl, hc, hb⟩
 have HC := zh hc
 have HB1 : Hid (Below w.heap.size w w1) := HB0.out.trans (hb.mono HB0.out.size)
 clear hc hb HD
 go_wp2_with fail
 go_ret2
 exact ⟨sp, n, cap, rfl, HC.out, HB1.out⟩
theorem rchangesR_any (s : ByteArray) (p1 : Option Addr) (n1 c1 : Nat) (a : List En) (p2 : Option Addr) (n2 c2 : Nat) (b : List En) (w : World) (ha : EnsIn w w.heap.size p1 n1 c1 a) (hb : EnsIn w w.heap.size p2 n2 c2 b) (h1 : n1 ≤ 100000) (h2 : n2 ≤ 100000) :
 Calls Tryz.prog 16 #[.agg (lkL s (.slice p1 n1 c1) (.slice p2 n2 c2)).toArray] w fun e w' => ∃ sp n cap, e = .returned (.tuple #[.slice sp n cap, .int .i64 (vC (sDiff a b)).2]) ∧ Hid (CgsIn w' w'.heap.size sp n cap (vC (sDiff a b)).1) ∧ Below w.heap.size w w' := by
 have hb0 : Below w.heap.size w (w.alloc (.cells (lkL s (.slice p1 n1 c1) (.slice p2 n2 c2)).toArray 46)) := (Below.refl _ _).alloc (Nat.le_refl _) _
 have HRZ : Hid ((w.alloc (.cells (lkL s (.slice p1 n1 c1) (.slice p2 n2 c2)).toArray 46)).heap[w.heap.size]? = some (.cells (lkL s (.slice p1 n1 c1) (.slice p2 n2 c2)).toArray 46 (0, 0))) := heap_alloc_new _ _
 have HA := zh (ha.upR hb0); have HBb := zh (hb.upR hb0); have HB0 := zh hb0
 clear ha hb hb0
 go_enter Tryz.func16, Tryz.ntmps16
 go_upto_region 1 with fail
 generalize World.alloc w _ = w0 at *
 have HD := zh ((refDiff_any p1 n1 c1 a p2 n2 c2 b w0 HA.out HBb.out h1 h2).mono fun e w' h => (show ResC w0 (sDiff a b) e w' by rw [← sRDiff_eq]; exact h).uni)
 have c1' : w0.cell? ⟨w.heap.size, 1, none⟩ = some (.slice p1 n1 c1) := heap_cellR HRZ.out rfl
 have c2' : w0.cell? ⟨w.heap.size, 2, none⟩ = some (.slice p2 n2 c2) := heap_cellR HRZ.out rfl
 clear HA HBb
 go_wp2_with fail
 refine HD.out.mono ?_
 rintro e w1 ⟨sp, n, cap, rfl, hc, hb⟩
 have HC := zh hc
 have HB1 : Hid (Below w.heap.size w w1) := HB0.out.trans (hb.mono HB0.out.size)
 clear hc hb HD
 go_wp2_with fail
 go_ret2
 exact ⟨sp, n, cap, rfl, HC.out, HB1.out⟩
theorem dg?_of {l : List En} (h : Snap l) {x : En} (hx : x ∈ l) : dg? l x.p = x.d := by unfold dg?; rw [fe_of h.srt hx]
theorem dg?_some {l : List En} {p : ByteArray} (h : dg? l p ≠ zed) : ∃ x ∈ l, x.p = p ∧ x.d = dg? l p := by
 unfold dg? at h ⊢
 cases e : fe l p with
 | none => rw [e] at h; exact absurd rfl h
 | some x => exact ⟨x, (fe_some e).1, (fe_some e).2, rfl⟩
theorem dg?_not {l : List En} {p : ByteArray} (h : fe l p = none) : dg? l p = zed := by unfold dg?; rw [h]
theorem mem_cdif {a b : List En} (ha : Snap a) (hb : Snap b) (z : Cg) : z ∈ cdif a b ↔ z.o = dg? a z.p ∧ z.n = dg? b z.p ∧ z.o ≠ z.n := by
 rw [cdif_eq ha.srt hb.srt ha.some hb.some]
 obtain ⟨s1, m1⟩ := fold_insF (f := En.p) (g := Cg.p) (hD1 b) (fun _ _ h => hD1_path h) a [] ha.srt List.Pairwise.nil (by simp)
 obtain ⟨s2, m2⟩ := fold_insF (f := En.p) (g := Cg.p) (hD2 a) (fun _ _ h => hD2_path h) b _ hb.srt s1 (fun z hz y hy hn e => by
  rcases (m1 z).1 hz with h | ⟨x, hx, e'⟩
  ·cases h
  ·apply hn
   unfold hD2
   rw [hD1_path e'] at e
   rw [← e, fe_of ha.srt hx])
 unfold rdif
 rw [m2, m1]
 constructor
 ·rintro ((h | ⟨x, hx, e⟩) | ⟨y, hy, e⟩)
  ·cases h
  ·unfold hD1 at e
   split at e
   ·cases e
   rename_i hne
   injection e with e
   subst e
   exact ⟨(dg?_of ha hx).symm, rfl, fun h => hne h.symm⟩
  ·unfold hD2 at e
   cases hf : fe a y.p with
   | some x => rw [hf] at e; cases e
   | none =>
     rw [hf] at e
     injection e with e
     subst e
     exact ⟨(dg?_not hf).symm, (dg?_of hb hy).symm, fun h => hb.some y hy h.symm⟩
 ·rintro ⟨h1, h2, h3⟩
  by_cases hz : z.o = zed
  ·have hn : dg? b z.p ≠ zed := by rw [← h2]; intro e; exact h3 (hz.trans e.symm)
   obtain ⟨y, hy, hp, hd⟩ := dg?_some hn
   have hfa : fe a z.p = none := by
    cases e : fe a z.p with
    | none => rfl
    | some x =>
      exfalso
      have h4 := ha.some x (fe_some e).1
      have h5 := dg?_of ha (fe_some e).1
      rw [(fe_some e).2, ← h1, hz] at h5
      exact h4 h5.symm
   refine .inr ⟨y, hy, ?_⟩
   unfold hD2
   rw [hp, hfa]
   show some (⟨z.p, zed, y.d⟩ : Cg) = some z
   rw [hd, ← h2, ← hz]
  ·obtain ⟨x, hx, hp, hd⟩ := dg?_some (l := a) (p := z.p) (by rw [← h1]; exact hz)
   refine .inl (.inr ⟨x, hx, ?_⟩)
   unfold hD1
   rw [hp, hd, ← h1, ← h2, if_neg (fun e => h3 e.symm)]
theorem srt_cdif {a b : List En} (ha : Snap a) (hb : Snap b) : Srt Cg.p (cdif a b) := srt_fol (srt_inv (srt_cre ha.srt)) (srt_cre hb.srt) (dif_fol a b ha.srt hb.srt)
theorem len_cdif {a b : List En} (ha : Snap a) (hb : Snap b) : (cdif a b).length ≤ a.length + b.length := by
 rw [cdif_eq ha.srt hb.srt ha.some hb.some]
 unfold rdif
 have h : ∀ {α : Type} (h : α → Option Cg) (l : List α) (out : List Cg), (l.foldl (insF Cg.p h) out).length ≤ out.length + l.length := by
  intro α h l
  induction l with
  | nil => intro out; exact Nat.le_refl _
  | cons x l ih =>
    intro out
    rw [List.foldl_cons]
    have h1 := ih (insF Cg.p h out x)
    have h2 : (insF Cg.p h out x).length ≤ out.length + 1 := by
     unfold insF
     split
     ·omega
     ·rw [length_ins]; omega
    rw [List.length_cons]; omega
 have h3 := h (hD2 a) b (a.foldl (insF Cg.p (hD1 b)) [])
 have h4 := h (hD1 b) a []
 simp only [List.length_nil] at h4
 omega
theorem Snap.vld {l : List En} (h : Snap l) (hl : l.length ≤ 64) : vldE l = true := by
 unfold vldE
 rw [Bool.and_eq_true, Bool.and_eq_true]
 refine ⟨⟨by simpa using hl, ?_⟩, (ascB_iff l).2 h.srt⟩
 rw [Bool.not_eq_true', List.any_eq_false]
 intro x hx
 unfold badE
 rw [decide_eq_false (h.some x hx), h.path x hx]; simp
theorem cdif_path {a b : List En} (ha : Snap a) (hb : Snap b) {z : Cg} (h : z ∈ cdif a b) : pathB z.p = true := by
 obtain ⟨h1, h2, h3⟩ := (mem_cdif ha hb z).1 h
 by_cases hz : dg? a z.p = zed
 ·have hn : dg? b z.p ≠ zed := fun e => h3 (by rw [h1, h2, hz, e])
  obtain ⟨y, hy, hp, _⟩ := dg?_some hn
  rw [← hp]; exact hb.path y hy
 ·obtain ⟨x, hx, hp, _⟩ := dg?_some hz
  rw [← hp]; exact ha.path x hx
theorem vld_cdif {a b : List En} (ha : Snap a) (hb : Snap b) (hl : a.length + b.length ≤ 128) : vldC (cdif a b) = true := by
 unfold vldC
 rw [Bool.and_eq_true, Bool.and_eq_true]
 have := len_cdif ha hb
 refine ⟨⟨by simp; omega, ?_⟩, (ascB_iff _).2 (srt_cdif ha hb)⟩
 rw [Bool.not_eq_true', List.any_eq_false]
 intro x hx
 unfold badC
 rw [decide_eq_false ((mem_cdif ha hb x).1 hx).2.2, cdif_path ha hb hx]; simp
def vE : Except Int (List En) → List En × Int
 | .error k => ([], k)
 | .ok l => (l, 0)
theorem ResE.uni {w w' : World} {r : Except Int (List En)} {e : Ending} (h : ResE w r e w') : ∃ sp n cap, e = .returned (.tuple #[.slice sp n cap, .int .i64 (vE r).2]) ∧ EnsIn w' w'.heap.size sp n cap (vE r).1 ∧ Below w.heap.size w w' := by
 cases r with
 | error k =>
   obtain ⟨he, hb⟩ := h
   exact ⟨none, 0, 0, he, ⟨rfl, fun x hx => (by cases hx), fun h => by omega⟩, hb⟩
 | ok l =>
   obtain ⟨sp, cap, he, ho, hb⟩ := h
   exact ⟨sp, l.length, cap, he, ho.ens rfl, hb⟩
theorem fe_mem {l : List En} (h : Snap l) (z : En) : z ∈ l ↔ dg? l z.p = z.d ∧ z.d ≠ zed := by
 constructor
 ·intro hz; exact ⟨dg?_of h hz, h.some z hz⟩
 ·rintro ⟨h1, h2⟩
  obtain ⟨x, hx, hp, hd⟩ := dg?_some (l := l) (p := z.p) (by rw [h1]; exact h2)
  have : x = z := by
   cases x; cases z
   simp only at hp hd h1
   rw [h1] at hd
   subst hp; subst hd; rfl
  rw [← this]; exact hx
theorem rapp_cdif {a b : List En} (ha : Snap a) (hb : Snap b) : rapp a (cdif a b) = some b := by
 have hs := srt_cdif ha hb
 unfold rapp
 rw [if_pos]
 ·refine congrArg some ?_
  have hkeep : Srt En.p (a.filter (keepA (cdif a b))) := List.Pairwise.filter _ ha.srt
  obtain ⟨s1, m1⟩ := fold_insF (f := Cg.p) (g := En.p) hA (fun _ _ h => hA_path h) (cdif a b) (a.filter (keepA (cdif a b))) hs hkeep (fun z hz x hx _ e => by
   have h1 := (List.mem_filter.1 hz).2
   unfold keepA at h1
   rw [e, fd_of hs hx] at h1
   cases h1)
  refine Srt.ext s1 hb.srt fun z => ?_
  rw [m1, List.mem_filter, fe_mem ha, fe_mem hb]
  have hno : (keepA (cdif a b) z = true) ↔ dg? a z.p = dg? b z.p := by
   unfold keepA
   constructor
   ·intro h
    by_cases e : dg? a z.p = dg? b z.p
    ·exact e
    ·have hm : (⟨z.p, dg? a z.p, dg? b z.p⟩ : Cg) ∈ cdif a b := (mem_cdif ha hb _).2 ⟨rfl, rfl, e⟩
     have := fd_of hs hm
     have this' : fd (cdif a b) z.p = some ⟨z.p, dg? a z.p, dg? b z.p⟩ := this
     rw [this'] at h; cases h
   ·intro e
    cases h : fd (cdif a b) z.p with
    | none => rfl
    | some x =>
      exfalso
      have k := (mem_cdif ha hb x).1 (fd_some h).1
      have hp := (fd_some h).2
      rw [hp] at k
      exact k.2.2 (by rw [k.1, k.2.1, e])
  rw [hno]
  constructor
  ·rintro (⟨⟨h1, h2⟩, h3⟩ | ⟨x, hx, e⟩)
   ·exact ⟨h3 ▸ h1, h2⟩
   ·have k := (mem_cdif ha hb x).1 hx
    unfold hA at e
    split at e
    ·cases e
    rename_i hne
    injection e with e
    subst e
    exact ⟨k.2.1.symm, hne⟩
  ·rintro ⟨h1, h2⟩
   by_cases e : dg? a z.p = dg? b z.p
   ·exact .inl ⟨⟨e.trans h1, h2⟩, e⟩
   ·refine .inr ⟨⟨z.p, dg? a z.p, dg? b z.p⟩, (mem_cdif ha hb _).2 ⟨rfl, rfl, e⟩, ?_⟩
    unfold hA
    show (if dg? b z.p = zed then none else some (⟨z.p, dg? b z.p⟩ : En)) = some z
    rw [h1, if_neg h2]
 ·rw [List.all_eq_true]
  intro x hx
  have k := (mem_cdif ha hb x).1 hx
  simp [k.1]
theorem sApply_snap {a b : List En} (ha : Snap a) (hb : Snap b) (h1 : a.length ≤ 64) (h2 : b.length ≤ 64) : sApply a (cdif a b) = .ok b := by
 rw [← sRApply_eq]
 unfold sRApply
 rw [ha.vld h1, vld_cdif ha hb (by omega), rapp_cdif ha hb]
 show (if 64 < b.length then .error 3 else .ok b : Except Int (List En)) = _
 rw [if_neg (by omega)]
end Go.Proofs.YtecllfbadciaoaaGreatDoor
