/-
  Stores: the walk of the reference's Put where it succeeds (valid stores of less than 256 blobs, data of at most 262144 bytes).
-/
import Derived.Test.YtfehgkpmjnmpeaaDoorStsB
import Derived.Test.YtfehgkpmjnmpeaaDoorStsF
import Derived.Test.YtfehgkpmjnmpeaaDoorStsI
import Derived.Test.YtfehgkpmjnmpeaaDoorGj
import Derived.Test.YtfehgkpmjnmpeaaDoorGb
namespace Go.Proofs.YtfehgkpmjnmpeaaDoor
open Go.RowKit

theorem yieldsIf_buildB {P : Program} {ops : Array Oper} {S : World → Prop} {op : Oper} {a : Act} (hw : Region.wanted op (yielded ops a.tmps) = true) (t : TypeId) (parts : List (Nat × Operand)) (ho : op.op = .build t parts.toArray)
    (vs : List (Nat × Value)) (hv : (parts.map fun (i, x) => (i, a.eval x)) = vs) (v : Value) (hrun : ∀ w, S w → (Instr.build t vs.toArray).run P w = .ok v w) : YieldsIf P ops S op v a :=
  .inl ⟨hw, fun w hw' => by
    unfold execOp
    simp only [ho, Sem.run_bind, List.map_toArray, hv, hrun w hw', Result.andThen_ok, Sem.run_pure]⟩
/-- what Put answers where it succeeds: the store as it was, or one blob more at its place -/
def PutOk (sp0 : Option Addr) (n0 cap0 : Nat) (l : List Bl) (x : Bl) (base : Nat) (e : Ending) (w' : World) : Prop :=
  (e = .returned (.tuple #[.slice sp0 n0 cap0, .agg ((x.d).map (Value.int .u8)).toArray, .int .i64 0]) ∧ ∃ y ∈ l, y.d = x.d) ∨
  ((∀ y ∈ l, y.d ≠ x.d) ∧ ∃ sp' cap' k, e = .returned (.tuple #[.slice sp' (n0 + 1) cap', .agg ((x.d).map (Value.int .u8)).toArray, .int .i64 0]) ∧ (∀ y ∈ l.take k, dls y.d x.d = true) ∧ (∀ y, l[k]? = some y → dls y.d x.d = false) ∧ OwnB w' base (.slice sp' (n0 + 1) cap') (l.take k ++ x :: l.drop k))
set_option maxRecDepth 100000 in
set_option maxHeartbeats 2000000 in
theorem rput_ok (sp0 : Option Addr) (n0 cap0 : Nat) (l : List Bl) (sp : Option Addr) (n cap : Nat) (b : List Int) (w : World) (hl : BlsIn w w.heap.size sp0 n0 cap0 l) (hnil0 : sp0 = none → cap0 = 0) (hv : vldP (l.map bp) = true) (hn0 : n0 < 256) (hs : Src w w.heap.size sp n cap b) (hnil : sp = none → cap = 0) (hn : n ≤ 262144) :
    Calls Tryd.prog 18 #[.slice sp0 n0 cap0, .slice sp n cap] w fun e w' => PutOk sp0 n0 cap0 l ⟨shb b, sp, n, cap, b⟩ w.heap.size e w' ∧ Below w.heap.size w w' := by
  have HL := Lib.hid hl; have HNIL0 := Lib.hid hnil0; have HS := Lib.hid hs; have HNIL := Lib.hid hnil; have HV := Lib.hid hv
  have HX : Hid (OkB (⟨shb b, sp, n, cap, b⟩ : Bl)) := shb_ok b
  have HN := Lib.hid (NewZ.new w)
  clear hl hs hnil0 hnil hv
  have hd : decide ((n : Int) > 262144) = false := by simp; omega
  have hd2 : ((n0 : Int) == 256) = false := by simp; omega
  go_enter Tryd.func18, Tryd.ntmps18
  go_wp2_with fail
  generalize hw0 : World.alloc w _ = w0
  have hz : NewZ w w0 := by rw [← hw0]; exact HN.out
  clear hw0 HN
  have HZ := Lib.hid hz; clear hz
  have HVC := Lib.hid (rvalid_bls sp0 n0 cap0 l w0 (HL.out.up HZ.out.b (Nat.le_refl _)) (by omega))
  rw [HV.out] at HVC
  refine HVC.out.mono ?_
  rintro e w1 ⟨rfl, hb1⟩
  have HZ1 := Lib.hid (HZ.out.z.below hb1 HZ.out.z.lt)
  have HB1 := Lib.hid (HZ.out.b.trans (hb1.mono HZ.out.b.size))
  have hs1 : w.heap.size < w1.heap.size := Nat.lt_of_lt_of_le HZ.out.z.lt hb1.size
  clear hb1
  have HSUM := Lib.hid (refSum_any sp n cap b w1 ((HS.out.below HB1.out (Nat.le_refl _)).more HB1.out.size) HNIL.out (by omega))
  go_wp2_with fail
  refine HSUM.out.mono ?_
  rintro e w2 ⟨rfl, hb2⟩
  have HZ2 := Lib.hid (HZ1.out.below hb2 HZ1.out.lt)
  have HB2 := Lib.hid (HB1.out.trans (hb2.mono HB1.out.size))
  have hs2 : w.heap.size < w2.heap.size := Nat.lt_of_lt_of_le hs1 hb2.size
  have HZ2L := Lib.hid hs2
  clear hb2 hs1
  have HD := Lib.hid (heap_alloc_new w2 (.cells (Array.replicate 32 (Value.int .u8 0)) 32))
  go_wp2_with (first
    | (refine wpList_store_row rfl 32 _ _ rfl w2.heap.size _ rfl rfl 32 _ HD.out (dg_info _) (by rw [dg_size]; rfl) (dg_one _) ?_; rw [setRow_new]; generalize hw3 : World.alloc w2 _ = w3; have hr3 : w3.rangeAt w2.heap.size 0 ((shb b).map (Value.int .u8)) := (by rw [← hw3]; exact range_row (pre := []) (post := []) (heap_alloc_new w2 _) (by simp; rfl) rfl); have hb3 : Below w2.heap.size w2 w3 := (by rw [← hw3]; exact (Below.refl _ _).alloc (Nat.le_refl _) _); have hs3 : w2.heap.size < w3.heap.size := (by rw [← hw3]; simp); have HR3 := Lib.hid hr3; have HZ3 := Lib.hid (HZ2.out.below hb3 HZ2.out.lt); have HB3 := Lib.hid (HB2.out.trans (hb3.mono HB2.out.size)); have HS3 := Lib.hid hs3; have HI3 := Lib.hid (info_d (shb_ok b)); clear hw3 hr3 hb3 hs3)
    | (refine wpList_load_mid rfl 32 _ rfl w2.heap.size 0 rfl _ _ HR3.out Tryd.underlying32 rfl HI3.out ?_))
  refine (rget_any sp0 n0 cap0 l (shb b) w3 (HL.out.up HB3.out (Nat.le_refl _)) (by omega) (shb_ok b)).mono ?_
  rintro e w5 ⟨hcase, hb5⟩
  have HR5 := Lib.hid (range_belowG HR3.out hb5 HS3.out)
  have HZ5 := Lib.hid (HZ3.out.below hb5 HZ3.out.lt)
  have HB5 := Lib.hid (HB3.out.trans (hb5.mono HB3.out.size))
  have HL5 := Lib.hid (Nat.lt_of_lt_of_le HS3.out hb5.size)
  clear hb5
  rcases hcase with ⟨rfl, hno⟩ | ⟨k, y, rfl, hy, hyd, _⟩
  · have HFND := Lib.hid hno; clear hno
    go_wp2_with fail
    have HR9' := Lib.hid (show w5.drew.rangeAt w2.heap.size 0 ((shb b).map (Value.int .u8)) from HR5.out)
    have HBD := Lib.hid HB5.out.drew
    have HLD := Lib.hid (show BlsIn w5.drew w5.drew.heap.size sp0 n0 cap0 l from HL.out.up HBD.out (Nat.le_refl _))
    have HDX := Lib.hid (show DatIn w5.drew w5.drew.heap.size ⟨shb b, sp, n, cap, b⟩ from (show DatIn w w.heap.size ⟨shb b, sp, n, cap, b⟩ from ⟨HS.out, HNIL.out⟩).up HBD.out (Nat.le_refl _))
    have HCON := Lib.hid (rinsertB_any sp0 n0 cap0 l ⟨shb b, sp, n, cap, b⟩ w5.drew HLD.out HNIL0.out HX.out HDX.out (by omega))
    refine wp_region_held_drew (S := fun w' => w'.rangeAt w2.heap.size 0 ((shb b).map (Value.int .u8))) (by kernel_rfl) HR9'.out (fun hHeld => ?_)
    refine wpAnyH_take (i := 0) (oi := _) (v := ?v0n5) rfl (by kernel_rfl) (by kernel_rfl) (by kernel_rfl) (fun _ _ _ h => h) (Or.inl ⟨by rfl, ?hy0n5⟩) (by assumption) ?rest0n5
    case hy0n5 =>
      intro w' hSw
      go_simp
      try with_reducible rfl
    try simp only [Act.put, List.getElem_toArray, List.getElem_cons_succ, List.getElem_cons_zero, List.setIfInBounds_toArray, List.set_cons_zero, List.set_cons_succ]
    refine' wpAnyH_take (i := 1) (oi := _) (v := _) rfl (by kernel_rfl) (by kernel_rfl) (by kernel_rfl) (fun _ _ _ h => h) (yieldsIf_load_mid (by rfl) _ _ rfl _ _ rfl _ _ ?hS1n6 Tryd.underlying32 rfl HI3.out) (by assumption) ?rest1n6
    case hS1n6 =>
      intro w' hSw
      exact hSw
    try simp only [Act.put, List.getElem_toArray, List.getElem_cons_succ, List.getElem_cons_zero, List.setIfInBounds_toArray, List.set_cons_zero, List.set_cons_succ]
    refine wpAnyH_take (i := 2) (oi := _) (v := ?v2n7) rfl (by kernel_rfl) (by kernel_rfl) (by kernel_rfl) (fun _ _ _ h => h) (Or.inl ⟨by rfl, ?hy2n7⟩) (by assumption) ?rest2n7
    case hy2n7 =>
      intro w' hSw
      go_simp
      try with_reducible rfl
    try simp only [Act.put, List.getElem_toArray, List.getElem_cons_succ, List.getElem_cons_zero, List.setIfInBounds_toArray, List.set_cons_zero, List.set_cons_succ]
    refine wpAnyH_take (i := 3) (oi := _) (v := _) rfl (by kernel_rfl) (by kernel_rfl) (by kernel_rfl) (fun _ _ _ h => h) (yieldsIf_buildB (by rfl) 52 [(0, .tmp 34), (1, .tmp 35)] rfl [(0, .agg ((shb b).map (Value.int .u8)).toArray), (1, .slice sp n cap)] rfl _ (fun w' _ => buildB ⟨shb b, sp, n, cap, b⟩ HX.out w')) (by assumption) ?rest3n8
    try simp only [Act.put, List.getElem_toArray, List.getElem_cons_succ, List.getElem_cons_zero, List.setIfInBounds_toArray, List.set_cons_zero, List.set_cons_succ]
    refine' wpAnyH_take (i := 5) (oi := _) (v := _) rfl (by kernel_rfl) (by kernel_rfl) (by kernel_rfl) (fun _ _ _ h => h) (yieldsIf_load_mid (by rfl) _ _ rfl _ _ rfl _ _ ?hS5n9 Tryd.underlying32 rfl HI3.out) (by assumption) ?rest5n9
    case hS5n9 =>
      intro w' hSw
      exact hSw
    try simp only [Act.put, List.getElem_toArray, List.getElem_cons_succ, List.getElem_cons_zero, List.setIfInBounds_toArray, List.set_cons_zero, List.set_cons_succ]
    refine wpAnyH_ready (rs := [4]) (by kernel_rfl) (by simp) (AllReadyH.cons (o := _) rfl (fun K hK => ?_) AllReadyH.nil)
    go_simp
    with_reducible refine (HCON.out).mono ?_
    rintro e w6 ⟨sp6, cap6, k, rfl, ho6, h1, h2, hb6⟩
    have HR9 := Lib.hid (range_belowG (w := w5.drew) HR5.out hb6 (show w2.heap.size < w5.heap.size from HL5.out))
    have HZ9 := Lib.hid (Zrow.below (w := w5.drew) HZ5.out hb6 (show w.heap.size < w5.heap.size from Nat.lt_of_lt_of_le HZ2L.out (Nat.le_of_lt HL5.out)))
    have HB9 := Lib.hid (HBD.out.trans (hb6.mono HBD.out.size))
    have HO6 := Lib.hid ho6
    have HH12 := Lib.hid (And.intro h1 h2)
    have HL9 := Lib.hid (show w2.heap.size < w6.heap.size from Nat.lt_of_lt_of_le HL5.out hb6.size)
    have HN9 := Lib.hid (show w2.heap.size ≠ w.heap.size from fun h => by have := HZ2L.out; omega)
    clear ho6 h1 h2 hb6
    go_wp2_with fail
    refine hK.out _ _ HR9.out (fun hHeld => ?_)
    clear hK K
    try simp only [Act.put, List.getElem_toArray, List.getElem_cons_succ, List.getElem_cons_zero, List.setIfInBounds_toArray, List.set_cons_zero, List.set_cons_succ]
    refine wpAnyH_take (i := 6) (oi := _) (v := ?v6n10) rfl (by kernel_rfl) (by kernel_rfl) (by kernel_rfl) (fun _ _ _ h => h) (Or.inl ⟨by rfl, ?hy6n10⟩) (by assumption) ?rest6n10
    case hy6n10 =>
      intro w' hSw
      go_simp
      try with_reducible rfl
    try simp only [Act.put, List.getElem_toArray, List.getElem_cons_succ, List.getElem_cons_zero, List.setIfInBounds_toArray, List.set_cons_zero, List.set_cons_succ]
    refine wpAnyH_ready (rs := [7]) (by kernel_rfl) (by simp) (AllReadyH.cons (o := _) rfl (fun K hK => ?_) AllReadyH.nil)
    rw [if_pos (by rfl)]
    refine wp_store_row 32 _ _ rfl w.heap.size _ rfl rfl 32 _ (HZ9.out) (by simpa using HI3.out) (by simp [shb_len]) (oneCell_map _ _) ?_
    have hg7 : (World.setRow w6 w.heap.size ((shb b).map (Value.int .u8)).toArray).heap[w.heap.size]? = some (.cells ((shb b).map (Value.int .u8)).toArray 32 (0, 0)) := setRow_heap _ _ _ _ _ _ HZ9.out
    have hgr7 := grown_setRowG w6 w.heap.size ((shb b).map (Value.int .u8)).toArray
    have hb7 : Below w.heap.size w (World.setRow w6 w.heap.size ((shb b).map (Value.int .u8)).toArray) := below_setRow HB9.out (Nat.le_refl _) _
    have hr7 : (World.setRow w6 w.heap.size ((shb b).map (Value.int .u8)).toArray).rangeAt w2.heap.size 0 ((shb b).map (Value.int .u8)) := range_grownG HR9.out hgr7 HL9.out HN9.out
    generalize hw7 : World.setRow w6 w.heap.size _ = w7 at hg7 hgr7 hb7 hr7
    have HG7 := Lib.hid hg7; have HGR7 := Lib.hid hgr7; have HB7 := Lib.hid hb7; have HR7 := Lib.hid hr7
    clear hw7 hg7 hgr7 hb7 hr7
    refine hK.out _ _ HR7.out (fun hHeld => ?_)
    clear hK K
    try simp only [Act.put, List.getElem_toArray, List.getElem_cons_succ, List.getElem_cons_zero, List.setIfInBounds_toArray, List.set_cons_zero, List.set_cons_succ]
    refine wpAnyH_take (i := 8) (oi := _) (v := ?v8n11) rfl (by kernel_rfl) (by kernel_rfl) (by kernel_rfl) (fun _ _ _ h => h) (Or.inl ⟨by rfl, ?hy8n11⟩) (by assumption) ?rest8n11
    case hy8n11 =>
      intro w' hSw
      go_simp
      try with_reducible rfl
    try simp only [Act.put, List.getElem_toArray, List.getElem_cons_succ, List.getElem_cons_zero, List.setIfInBounds_toArray, List.set_cons_zero, List.set_cons_succ]
    refine wpAnyH_done (by kernel_rfl) ?_ _
    clear hHeld
    go_wp2_with fail
    refine bodyPost_ret (results_mixG (P := Tryd.prog) rfl _ _ w.heap.size 32 _ (0, 0) _ rfl HG7.out Tryd.underlying32 rfl (by simpa using HI3.out)) rfl ?_
    exact ⟨.inr ⟨HFND.out, sp6, cap6, k, rfl, HH12.out.1, HH12.out.2, ⟨own_lessG (HO6.out.1.kept HGR7.out (own_neG HO6.out.1 (show w.heap.size < w5.heap.size from Nat.lt_of_lt_of_le HZ2L.out (Nat.le_of_lt HL5.out)))) (show w.heap.size ≤ w5.heap.size from Nat.le_trans (Nat.le_of_lt HZ2L.out) (Nat.le_of_lt HL5.out)), HO6.out.2⟩⟩, HB7.out⟩
  · have HFND := Lib.hid (show ∃ y ∈ l, y.d = shb b from ⟨y, List.mem_of_getElem? hy, hyd⟩); clear hy hyd
    go_wp2_with fail
    have HR9 := Lib.hid (show w5.drew.rangeAt w2.heap.size 0 ((shb b).map (Value.int .u8)) from HR5.out)
    have HZ9 := Lib.hid (show Zrow w5.drew w.heap.size from HZ5.out)
    have HB9 := Lib.hid HB5.out.drew
    have HL9 := Lib.hid (show w2.heap.size < w5.drew.heap.size from HL5.out)
    have HN9 := Lib.hid (show w2.heap.size ≠ w.heap.size from fun h => by omega)
    refine wp_region_held_drew (S := fun w' => w'.rangeAt w2.heap.size 0 ((shb b).map (Value.int .u8))) (by kernel_rfl) HR9.out (fun hHeld => ?_)
    refine wpAnyH_take (i := 0) (oi := _) (v := ?v0n1) rfl (by kernel_rfl) (by kernel_rfl) (by kernel_rfl) (fun _ _ _ h => h) (Or.inl ⟨by rfl, ?hy0n1⟩) (by assumption) ?rest0n1
    case hy0n1 =>
      intro w' hSw
      go_simp
      try with_reducible rfl
    try simp only [Act.put, List.getElem_toArray, List.getElem_cons_succ, List.getElem_cons_zero, List.setIfInBounds_toArray, List.set_cons_zero, List.set_cons_succ]
    refine' wpAnyH_take (i := 1) (oi := _) (v := _) rfl (by kernel_rfl) (by kernel_rfl) (by kernel_rfl) (fun _ _ _ h => h) (yieldsIf_load_mid (by rfl) _ _ rfl _ _ rfl _ _ ?hS1n2 Tryd.underlying32 rfl HI3.out) (by assumption) ?rest1n2
    case hS1n2 =>
      intro w' hSw
      exact hSw
    try simp only [Act.put, List.getElem_toArray, List.getElem_cons_succ, List.getElem_cons_zero, List.setIfInBounds_toArray, List.set_cons_zero, List.set_cons_succ]
    refine wpAnyH_take (i := 2) (oi := _) (v := ?v2n3) rfl (by kernel_rfl) (by kernel_rfl) (by kernel_rfl) (fun _ _ _ h => h) (Or.inl ⟨by rfl, ?hy2n3⟩) (by assumption) ?rest2n3
    case hy2n3 =>
      intro w' hSw
      go_simp
      try with_reducible rfl
    try simp only [Act.put, List.getElem_toArray, List.getElem_cons_succ, List.getElem_cons_zero, List.setIfInBounds_toArray, List.set_cons_zero, List.set_cons_succ]
    refine wpAnyH_ready (rs := [3]) (by kernel_rfl) (by simp) (AllReadyH.cons (o := _) rfl (fun K hK => ?_) AllReadyH.nil)
    rw [if_pos (by rfl)]
    refine wp_store_row 32 _ _ rfl w.heap.size _ rfl rfl 32 _ (HZ9.out) (by simpa using HI3.out) (by simp [shb_len]) (oneCell_map _ _) ?_
    have hg7 : (World.setRow w5.drew w.heap.size ((shb b).map (Value.int .u8)).toArray).heap[w.heap.size]? = some (.cells ((shb b).map (Value.int .u8)).toArray 32 (0, 0)) := setRow_heap _ _ _ _ _ _ HZ9.out
    have hgr7 := grown_setRowG w5.drew w.heap.size ((shb b).map (Value.int .u8)).toArray
    have hb7 : Below w.heap.size w (World.setRow w5.drew w.heap.size ((shb b).map (Value.int .u8)).toArray) := below_setRow HB9.out (Nat.le_refl _) _
    have hr7 : (World.setRow w5.drew w.heap.size ((shb b).map (Value.int .u8)).toArray).rangeAt w2.heap.size 0 ((shb b).map (Value.int .u8)) := range_grownG HR9.out hgr7 HL9.out HN9.out
    generalize hw7 : World.setRow w5.drew w.heap.size _ = w7 at hg7 hgr7 hb7 hr7
    have HG7 := Lib.hid hg7; have HGR7 := Lib.hid hgr7; have HB7 := Lib.hid hb7; have HR7 := Lib.hid hr7
    clear hw7 hg7 hgr7 hb7 hr7
    refine hK.out _ _ HR7.out (fun hHeld => ?_)
    clear hK K
    try simp only [Act.put, List.getElem_toArray, List.getElem_cons_succ, List.getElem_cons_zero, List.setIfInBounds_toArray, List.set_cons_zero, List.set_cons_succ]
    refine wpAnyH_take (i := 4) (oi := _) (v := ?v4n4) rfl (by kernel_rfl) (by kernel_rfl) (by kernel_rfl) (fun _ _ _ h => h) (Or.inl ⟨by rfl, ?hy4n4⟩) (by assumption) ?rest4n4
    case hy4n4 =>
      intro w' hSw
      go_simp
      try with_reducible rfl
    try simp only [Act.put, List.getElem_toArray, List.getElem_cons_succ, List.getElem_cons_zero, List.setIfInBounds_toArray, List.set_cons_zero, List.set_cons_succ]
    refine wpAnyH_done (by kernel_rfl) ?_ _
    clear hHeld
    go_wp2_with fail
    refine bodyPost_ret (results_mixG (P := Tryd.prog) rfl _ _ w.heap.size 32 _ (0, 0) _ rfl HG7.out Tryd.underlying32 rfl (by simpa using HI3.out)) rfl ?_
    exact ⟨.inl ⟨rfl, HFND.out⟩, HB7.out⟩
end Go.Proofs.YtfehgkpmjnmpeaaDoor
