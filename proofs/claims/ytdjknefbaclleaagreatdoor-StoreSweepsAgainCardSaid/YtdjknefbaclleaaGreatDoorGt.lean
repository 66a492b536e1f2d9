/-
  Stores: the walk of duplicates at any list (at most 1000000 blobs, each of at most 10^12 bytes).
-/
import Derived.Test.YtdjknefbaclleaaGreatDoorGs
import Derived.Test.YtdjknefbaclleaaGreatDoorGj
import Derived.Test.YtdjknefbaclleaaGreatDoorGz
import Derived.Test.YtdjknefbaclleaaGreatDoorGy
import Derived.Test.YtdjknefbaclleaaGreatDoorGd
namespace Go.Proofs.YtdjknefbaclleaaGreatDoor
open Go.RowKit

theorem ne_typesB : 5 ≠ 50 := by decide
theorem Sto.drew {w : World} {base : Nat} {sp : Option Addr} {n c : Nat} {l : List Bl} (h : Sto w base sp n c l) : Sto w.drew base sp n c l := ⟨⟨h.own.1, h.own.2⟩, fun x hx => ⟨(h.dat x hx).1, (h.dat x hx).2⟩⟩
/-- a new blob at the store's end -/
theorem Sto.snoc {w w' : World} {base b : Nat} {sp sp' : Option Addr} {n c c' : Nat} {L : List Bl} {y : Bl} (h : Sto w base sp n c L) (hy : OwnU w b y) (hb : base ≤ b) (ho : OwnB w' base (.slice sp' (n + 1) c') (L ++ [y])) (hg : w.grownBy w' (Value.slice sp n c).ownBlock) : Sto w' base sp' (n + 1) c' (L ++ [y]) :=
  ⟨ho, fun x hx => by
    rcases List.mem_append.1 hx with hx | hx
    · exact ⟨(h.dat x hx).1.kept hg (own_neT (h.dat x hx).1 h.own.1 ne_typesB), (h.dat x hx).2⟩
    · rw [List.mem_singleton.1 hx]
      exact ⟨(OwnU.base hy hb).1.kept hg (own_neT (OwnU.base hy hb).1 h.own.1 ne_typesB), hy.2⟩⟩
set_option maxRecDepth 100000 in
set_option maxHeartbeats 2000000 in
theorem duplicates_any (sp : Option Addr) (n cap : Nat) (l : List Bl) (w : World) (hl : BlsIn w w.heap.size sp n cap l) (hn : n ≤ 1000000) (hd40 : ∀ x ∈ l, x.n ≤ 1000000000000) :
    Calls Tryz.prog 18 #[.slice sp n cap] w fun e w' => ∃ (sp' : Option Addr) (cap' : Nat) (L : List Bl), e = .returned (.slice sp' n cap') ∧ L.length = n ∧ L.map bp = l.map bp ∧ Sto w' w.heap.size sp' n cap' L ∧ Below w.heap.size w w' := by
  obtain ⟨i0, hi0, hz0, hz1, hz2⟩ := info_parts infoB3
  have HL := Lib.hid hl; have HD40 := Lib.hid hd40
  clear hl hd40
  go_enter Tryz.func18, Tryz.ntmps18
  go_wp2_with (refine wpList_make_own w rfl _ _ 24 rfl w.heap.size 50 i0 _ 33 Tryz.underlying24 hi0 hz0 hz1 .i64 .i64 (n : Int) n rfl rfl rfl (by rw [hz2]; omega) (by unfold maxLen; omega) (Nat.le_refl _) ?_
               intro w1 hown1 hgr1
               have hb1 : Below w.heap.size w w1 := (Below.refl _ _).grown hgr1 (Nat.le_refl _) (by intro k hk; cases hk)
               have HB1 := Lib.hid hb1; have HO1 := Lib.hid hown1; clear hown1 hgr1 hb1)
  go_loopw [3, 11] (fun v i wr => ∃ (k c : Nat) (g : Option Addr) (L : List Bl), v = .slice g k c ∧ i = .int .i64 k ∧ k ≤ n ∧ Hid (L.length = k ∧ L.map bp = (l.map bp).take k ∧ Sto wr w.heap.size g k c L ∧ Below w.heap.size w wr)) (fun _ i _ => n - (intOf i).toNat)
  case atStart => exact ⟨0, n, some ⟨w.heap.size, 0, none⟩, [], rfl, rfl, Nat.zero_le _, rfl, rfl, ⟨⟨HO1.out, by simp⟩, fun x hx => (by cases hx)⟩, HB1.out⟩
  case round =>
    obtain ⟨k, c, gv, L, rfl, rfl, hk, H⟩ := hrel
    have HLL := Lib.hid H.out.1; have HLM := Lib.hid H.out.2.1; have HOW := Lib.hid H.out.2.2.1; have HBW := Lib.hid H.out.2.2.2
    clear H
    by_cases hlt : k < n
    · have hd : decide ((k : Int) < (n : Int)) = true := by simp; omega
      have q0 : IntKind.i64.wrap (k : Int) = (k : Int) := IntWalk.i64_in _ (by omega)
      obtain ⟨ba, off, rfl, hba, hcap, hr⟩ := HL.out.cells (by omega)
      obtain ⟨x, hx⟩ : ∃ x, l[k]? = some x := ⟨l[k]'(by have := HL.out.len; omega), List.getElem?_eq_getElem _⟩
      have HXM := Lib.hid (List.mem_of_getElem? hx)
      have HRW := Lib.hid (range_belowG (hr k x hx) HBW.out hba)
      have HOK := Lib.hid (HL.out.ok x HXM.out)
      have HD := Lib.hid (HL.out.dat x HXM.out)
      have HXN := Lib.hid (HD40.out x HXM.out)
      have HI := Lib.hid (info_b HOK.out)
      have HI2 : Hid ((Tryz.prog.info? 50).map (·.size) = some (blL x).toArray.size) := by show _ = _; rw [List.size_toArray]; exact HI.out
      have HS : Hid (33 = (blL x).toArray.size) := by show _ = _; rw [List.size_toArray, blL_length HOK.out]
      have HID := Lib.hid (info_d HOK.out)
      have HGX := Lib.hid (bp_get hx)
      have p1 : (0 : Int) ≤ (k : Int) := by omega
      have p2 : (k : Int) < (n : Int) := by omega
      have hbs := HBW.out.size
      clear hr hx hcap
      go_wp2_with (first
        | (refine wpList_load_mid rfl 50 _ rfl ba (off + k * 33) rfl _ _ HRW.out Tryz.underlying50 rfl HI.out ?_)
        | (refine wpList_store_row rfl 50 _ _ rfl wr.heap.size _ rfl rfl 50 _ (heap_alloc_new wr _) (by simpa using HI2.out) (by simpa using HS.out) (Array.all_eq_true_iff_forall_mem.2 (by simpa using blL_one x)) ?_; rw [setRow_new]; generalize hw2 : World.alloc wr _ = w2; have he2 : BlB w2 wr.heap.size x := (by rw [← hw2]; exact heap_alloc_new _ _); have hb2 : Below wr.heap.size wr w2 := (by rw [← hw2]; exact (Below.refl _ _).alloc (Nat.le_refl _) _); have hz2 : wr.heap.size < w2.heap.size := (by rw [← hw2]; simp); have hp2 := he2.s HOK.out; have HE2 := Lib.hid he2; have HW2 := Lib.hid hb2; have HO2 := Lib.hid (HOW.out.below hb2); clear hw2 he2 hb2))
      have HW2D : Hid (Below w.heap.size w w2.drew) := (HBW.out.trans (HW2.out.mono hbs)).drew
      refine wp_region_held_drew (S := fun w' => BlB w' wr.heap.size x) (by kernel_rfl) HE2.out (fun hHeld => ?_)
      refine wpAnyH_take (i := 0) (oi := _) (v := ?v0n1) rfl (by kernel_rfl) (by kernel_rfl) (by kernel_rfl) (fun _ _ _ h => h) (Or.inl ⟨by rfl, ?hy0n1⟩) (by assumption) ?rest0n1
      case hy0n1 =>
        intro w' hSw
        go_simp
        try with_reducible rfl
      try simp only [Act.put, List.getElem_toArray, List.getElem_cons_succ, List.getElem_cons_zero, List.setIfInBounds_toArray, List.set_cons_zero, List.set_cons_succ]
      refine wpAnyH_take (i := 1) (oi := _) (v := ?v1n2) rfl (by kernel_rfl) (by kernel_rfl) (by kernel_rfl) (fun _ _ _ h => h) (Or.inl ⟨by rfl, ?hy1n2⟩) (by assumption) ?rest1n2
      case hy1n2 =>
        intro w' hSw
        go_simp
        try with_reducible rfl
      try simp only [Act.put, List.getElem_toArray, List.getElem_cons_succ, List.getElem_cons_zero, List.setIfInBounds_toArray, List.set_cons_zero, List.set_cons_succ]
      refine' wpAnyH_take (i := 2) (oi := _) (v := _) rfl (by kernel_rfl) (by kernel_rfl) (by kernel_rfl) (fun _ _ _ h => h) (yieldsIf_load_mid (by rfl) _ _ rfl _ _ rfl _ _ ?hS2n3 Tryz.underlying29 rfl HID.out) (by assumption) ?rest2n3
      case hS2n3 =>
        intro w' hSw
        exact hSw.d
      try simp only [Act.put, List.getElem_toArray, List.getElem_cons_succ, List.getElem_cons_zero, List.setIfInBounds_toArray, List.set_cons_zero, List.set_cons_succ]
      refine wpAnyH_take (i := 3) (oi := _) (v := ?v3n4) rfl (by kernel_rfl) (by kernel_rfl) (by kernel_rfl) (fun _ _ _ h => h) (Or.inl ⟨by rfl, ?hy3n4⟩) (by assumption) ?rest3n4
      case hy3n4 =>
        intro w' hSw
        go_simp
        try with_reducible rfl
      try simp only [Act.put, List.getElem_toArray, List.getElem_cons_succ, List.getElem_cons_zero, List.setIfInBounds_toArray, List.set_cons_zero, List.set_cons_succ]
      refine wpAnyH_take (i := 4) (oi := _) (v := ?v4n5) rfl (by kernel_rfl) (by kernel_rfl) (by kernel_rfl) (fun _ _ _ h => h) (Or.inl ⟨by rfl, ?hy4n5⟩) (by assumption) ?rest4n5
      case hy4n5 =>
        intro w' hSw
        have h1 := BlB.s hSw HOK.out
        go_simp
        try with_reducible rfl
      try simp only [Act.put, List.getElem_toArray, List.getElem_cons_succ, List.getElem_cons_zero, List.setIfInBounds_toArray, List.set_cons_zero, List.set_cons_succ]
      refine wpAnyH_ready (rs := [5]) (by kernel_rfl) (by simp) (AllReadyH.cons (o := _) rfl (fun K hK => ?_) AllReadyH.nil)
      go_simp
      with_reducible refine (duplicate_any x.sp x.n x.cap x.b _ (HD.out.up HW2D.out (Nat.le_refl _)).src HXN.out).mono ?_
      rintro e w3 ⟨g3, rfl, ho3, hb3⟩
      have hs3 : w2.heap.size ≤ w3.heap.size := hb3.size
      have HK3 := Lib.hid (BlB.below (w := w2.drew) HE2.out hb3 hz2)
      have HR3 := Lib.hid ho3
      have HO3 := Lib.hid (Sto.below (w := w2.drew) HO2.out.drew hb3)
      have HB3 := Lib.hid (HW2D.out.trans (hb3.mono HW2D.out.size))
      have HYOK : Hid (OkB (⟨x.d, some ⟨g3, 0, none⟩, x.n, x.n, x.b⟩ : Bl)) := HOK.out
      clear ho3 hb3
      go_wp2_with fail
      refine hK.out _ _ HK3.out (fun hHeld => ?_)
      clear hK K
      try simp only [Act.put, List.getElem_toArray, List.getElem_cons_succ, List.getElem_cons_zero, List.setIfInBounds_toArray, List.set_cons_zero, List.set_cons_succ]
      refine wpAnyH_take (i := 6) (oi := _) (v := _) rfl (by kernel_rfl) (by kernel_rfl) (by kernel_rfl) (fun _ _ _ h => h) (yieldsIf_buildG (by rfl) 50 [(0, .tmp 17), (1, .tmp 20)] rfl [(0, .agg (x.d.map (Value.int .u8)).toArray), (1, .slice (some ⟨g3, 0, none⟩) x.n x.n)] rfl _ (fun w' _ => buildB ⟨x.d, some ⟨g3, 0, none⟩, x.n, x.n, x.b⟩ HYOK.out w')) (by assumption) ?rest6n6
      try simp only [Act.put, List.getElem_toArray, List.getElem_cons_succ, List.getElem_cons_zero, List.setIfInBounds_toArray, List.set_cons_zero, List.set_cons_succ]
      refine wpAnyH_ready (rs := [7]) (by kernel_rfl) (by simp) (AllReadyH.cons (o := _) rfl (fun K hK => ?_) AllReadyH.nil)
      rw [if_pos (by rfl)]
      refine wp_slice_eqG 24 1 [(0, .tmp 21)] rfl [(0, .agg (blL ⟨x.d, some ⟨g3, 0, none⟩, x.n, x.n, x.b⟩).toArray)] rfl _ _ (sliceB _ ⟨x.d, some ⟨g3, 0, none⟩, x.n, x.n, x.b⟩ HYOK.out) ?_
      generalize hw4 : World.alloc w3 _ = w4
      have hz4 : BlB w4 w3.heap.size ⟨x.d, some ⟨g3, 0, none⟩, x.n, x.n, x.b⟩ := by rw [← hw4]; exact heap_alloc_new w3 _
      have hb4 : Below w3.heap.size w3 w4 := by rw [← hw4]; exact (Below.refl _ w3).alloc (Nat.le_refl _) _
      have HZ4 := Lib.hid hz4
      have HB4 := Lib.hid (HB3.out.trans (hb4.mono (Nat.le_trans HW2D.out.size hs3)))
      have HO4 := Lib.hid (HO3.out.below hb4)
      have HR4 := Lib.hid (own_belowG HR3.out hb4)
      have HK4 := Lib.hid (BlB.below HK3.out hb4 (by omega))
      have hs4 := hb4.size
      clear hw4 hz4 hb4
      refine hK.out _ _ HK4.out (fun hHeld => ?_)
      clear hK K
      try simp only [Act.put, List.getElem_toArray, List.getElem_cons_succ, List.getElem_cons_zero, List.setIfInBounds_toArray, List.set_cons_zero, List.set_cons_succ]
      refine wpAnyH_ready (rs := [8]) (by kernel_rfl) (by simp) (AllReadyH.cons (o := _) rfl (fun K hK => ?_) AllReadyH.nil)
      rw [if_pos (by rfl)]
      refine wp_append_blG (.tmp 15) (.tmp 22) rfl w.heap.size _ L k HLL.out.symm rfl HO4.out.own w3.heap.size ⟨x.d, some ⟨g3, 0, none⟩, x.n, x.n, x.b⟩ rfl HZ4.out HYOK.out (by omega) (by omega) ?_
      intro sp5 cap5 w5 HO5 HB5 HG5
      have HB6 := Lib.hid (HB4.out.trans HB5.out)
      have HK5 : Hid (BlB w5 wr.heap.size x) := (HG5.out.block wr.heap.size (by omega) (fun e => by
        have e2 := (HOW.out.own.1.lt wr.heap.size e.symm).2
        omega)).trans HK4.out
      refine hK.out _ _ HK5.out (fun hHeld => ?_)
      clear hK K
      try simp only [Act.put, List.getElem_toArray, List.getElem_cons_succ, List.getElem_cons_zero, List.setIfInBounds_toArray, List.set_cons_zero, List.set_cons_succ]
      refine wpAnyH_take (i := 9) (oi := _) (v := ?v9n7) rfl (by kernel_rfl) (by kernel_rfl) (by kernel_rfl) (fun _ _ _ h => h) (Or.inl ⟨by rfl, ?hy9n7⟩) (by assumption) ?rest9n7
      case hy9n7 =>
        intro w' hSw
        go_simp
        try with_reducible rfl
      try simp only [Act.put, List.getElem_toArray, List.getElem_cons_succ, List.getElem_cons_zero, List.setIfInBounds_toArray, List.set_cons_zero, List.set_cons_succ]
      refine wpAnyH_done (by kernel_rfl) ?_ _
      clear hHeld
      go_wp2_with fail
      go_roundw
      case rel =>
        refine ⟨k + 1, cap5, sp5, L ++ [⟨x.d, some ⟨g3, 0, none⟩, x.n, x.n, x.b⟩], rfl, by go_num, by omega, by rw [List.length_append, HLL.out]; rfl, ?_, ?_, HB6.out⟩
        · rw [List.map_append, HLM.out, List.take_add_one, HGX.out]; rfl
        · exact HO4.out.snoc ⟨HR4.out, HD.out.src.byt⟩ HW2D.out.size HO5.out HG5.out
      case measure => simp [intOf]; omega
    · obtain rfl : k = n := by omega
      have hd : decide ((k : Int) < (k : Int)) = false := by simp
      go_wp2_with fail
      go_ret
      refine ⟨gv, c, L, rfl, HLL.out, ?_, HOW.out, HBW.out⟩
      rw [HLM.out, List.take_of_length_le (by rw [List.length_map, HL.out.len]; exact Nat.le_refl _)]
end Go.Proofs.YtdjknefbaclleaaGreatDoor

namespace Go.Proofs.YtdjknefbaclleaaGreatDoor
open Go.RowKit Go.Sort

theorem AscB.of_srtD {l : List Bl} (h : srtD (l.map bp)) : AscB l := List.pairwise_map.1 h
theorem AscB.srtD {l : List Bl} (h : AscB l) : srtD (l.map bp) := List.pairwise_map.2 h
theorem AscB.of_vld {l : List Bl} (h : vldP (l.map bp) = true) : AscB l := by
  unfold vldP at h
  rw [Bool.and_eq_true, Bool.and_eq_true] at h
  exact AscB.of_srtD (uptoD_srt h.1.2)
theorem AscB.lt {l : List Bl} (h : AscB l) {i j : Nat} {x y : Bl} (hij : i < j) (hi : l[i]? = some x) (hj : l[j]? = some y) : dls x.d y.d = true := by
  obtain ⟨h1, rfl⟩ := List.getElem?_eq_some_iff.1 hi
  obtain ⟨h2, rfl⟩ := List.getElem?_eq_some_iff.1 hj
  exact List.pairwise_iff_getElem.1 h i j h1 h2 hij
/-- the first of each digest in two stores -/
theorem first_mem {a b : List Bl} (ha : AscB a) (hb : AscB b) (z : Bl) : (∃ i : Nat, (a ++ b)[i]? = some z ∧ ∀ (i' : Nat) (y : Bl), i' < i → (a ++ b)[i']? = some y → y.d ≠ z.d) ↔ z ∈ a ∨ (z ∈ b ∧ ∀ y ∈ a, y.d ≠ z.d) := by
  constructor
  · rintro ⟨i, hi, hm⟩
    by_cases h : i < a.length
    · rw [List.getElem?_append_left h] at hi
      exact .inl (List.mem_of_getElem? hi)
    · rw [List.getElem?_append_right (by omega)] at hi
      refine .inr ⟨List.mem_of_getElem? hi, fun y hy => ?_⟩
      obtain ⟨j, hj, e⟩ := List.getElem_of_mem hy
      exact hm j y (by omega) (by rw [List.getElem?_append_left hj, List.getElem?_eq_getElem hj, e])
  · rintro (h | ⟨h, hno⟩)
    · obtain ⟨j, hj, e⟩ := List.getElem_of_mem h
      have hz : a[j]? = some z := by rw [List.getElem?_eq_getElem hj, e]
      refine ⟨j, by rw [List.getElem?_append_left hj]; exact hz, fun i' y hi' hy => ?_⟩
      rw [List.getElem?_append_left (by omega)] at hy
      exact dls_ne (ha.lt hi' hy hz)
    · obtain ⟨j, hj, e⟩ := List.getElem_of_mem h
      have hz : b[j]? = some z := by rw [List.getElem?_eq_getElem hj, e]
      refine ⟨a.length + j, by rw [List.getElem?_append_right (by omega), Nat.add_sub_cancel_left]; exact hz, fun i' y hi' hy => ?_⟩
      by_cases h2 : i' < a.length
      · rw [List.getElem?_append_left h2] at hy
        exact hno y (List.mem_of_getElem? hy)
      · rw [List.getElem?_append_right (by omega)] at hy
        exact dls_ne (hb.lt (by omega) hy hz)
/-- union of two stores in order is the one list in order of what either has first -/
theorem uni_two {a b M T : List Bl} {h : ∀ x ∈ a ++ b, OkB x} (hs : SrtB (a ++ b) M h) (ha : AscB a) (hb : AscB b) (hT : AscB T) (hm : ∀ z, z ∈ T ↔ z ∈ a ∨ (z ∈ b ∧ ∀ y ∈ a, y.d ≠ z.d)) : cptK M (a ++ b).length = T :=
  uni_eq hs hT (fun z => (hm z).trans (first_mem ha hb z).symm)
theorem uni_old {l M : List Bl} {x : Bl} {h : ∀ y ∈ l ++ [x], OkB y} (hs : SrtB (l ++ [x]) M h) (hl : AscB l) (he : ∃ y ∈ l, y.d = x.d) : cptK M (l ++ [x]).length = l := by
  refine uni_two hs hl (List.pairwise_singleton _ _) hl (fun z => ⟨.inl, ?_⟩)
  rintro (h | ⟨h, hno⟩)
  · exact h
  · rw [List.mem_singleton.1 h] at hno
    obtain ⟨y, hy, e⟩ := he
    exact absurd e (hno y hy)
theorem asc_ins {l : List Bl} {x : Bl} (hl : AscB l) (hno : ∀ y ∈ l, y.d ≠ x.d) {k : Nat} (h1 : ∀ y ∈ l.take k, dls y.d x.d = true) (h2 : ∀ y, l[k]? = some y → dls y.d x.d = false) : AscB (l.take k ++ x :: l.drop k) := by
  have hgt : ∀ y ∈ l.drop k, dls x.d y.d = true := fun y hy => by
    obtain ⟨j, hj, e⟩ := List.getElem_of_mem hy
    have hy2 : l[k + j]? = some y := by rw [← List.getElem?_drop, List.getElem?_eq_getElem hj, e]
    have hk : k < l.length := by have := (List.getElem?_eq_some_iff.1 hy2).1; omega
    have hk2 : l[k]? = some l[k] := List.getElem?_eq_getElem hk
    have hx : dls x.d l[k].d = true := by
      cases h5 : dls x.d l[k].d
      · exact absurd (dls_tri (h2 _ hk2) h5) (hno _ (List.getElem_mem hk))
      · rfl
    by_cases h0 : j = 0
    · subst h0
      rw [Nat.add_zero, hk2] at hy2
      injection hy2 with hy2
      rw [← hy2]; exact hx
    · exact dls_trans hx (hl.lt (by omega) hk2 hy2)
  unfold AscB
  rw [List.pairwise_append, List.pairwise_cons]
  refine ⟨List.Pairwise.sublist (List.take_sublist _ _) hl, ⟨hgt, List.Pairwise.sublist (List.drop_sublist _ _) hl⟩, fun a ha b hb => ?_⟩
  rcases List.mem_cons.1 hb with rfl | hb
  · exact h1 a ha
  · exact dls_trans (h1 a ha) (hgt b hb)
theorem uni_new {l M : List Bl} {x : Bl} {h : ∀ y ∈ l ++ [x], OkB y} (hs : SrtB (l ++ [x]) M h) (hl : AscB l) (hno : ∀ y ∈ l, y.d ≠ x.d) {k : Nat} (h1 : ∀ y ∈ l.take k, dls y.d x.d = true) (h2 : ∀ y, l[k]? = some y → dls y.d x.d = false) : cptK M (l ++ [x]).length = l.take k ++ x :: l.drop k := by
  refine uni_two hs hl (List.pairwise_singleton _ _) (asc_ins hl hno h1 h2) (fun z => ?_)
  have hz : z ∈ l ↔ z ∈ l.take k ∨ z ∈ l.drop k := by
    conv => lhs; rw [← List.take_append_drop k l]
    exact List.mem_append
  rw [List.mem_append, List.mem_cons, List.mem_singleton, hz]
  constructor
  · rintro (h | rfl | h)
    · exact .inl (.inl h)
    · exact .inr ⟨rfl, hno⟩
    · exact .inl (.inr h)
  · rintro ((h | h) | ⟨rfl, _⟩)
    · exact .inl h
    · exact .inr (.inr h)
    · exact .inr (.inl rfl)
/-- the place of a digest -/
theorem ins_place {l : List Bl} {x : Bl} (hl : AscB l) : ∃ k, (∀ y ∈ l.take k, dls y.d x.d = true) ∧ (∀ y, l[k]? = some y → dls y.d x.d = false) := by
  induction l with
  | nil => exact ⟨0, fun y hy => (by cases hy), fun y hy => (by cases hy)⟩
  | cons a l ih =>
    cases ha : dls a.d x.d
    · exact ⟨0, fun y hy => (by cases hy), fun y hy => by
        have : a = y := by simpa using hy
        rw [← this]; exact ha⟩
    · obtain ⟨k, h1, h2⟩ := ih (List.pairwise_cons.1 hl).2
      refine ⟨k + 1, fun y hy => ?_, fun y hy => h2 y (by simpa using hy)⟩
      rw [List.take_succ_cons] at hy
      rcases List.mem_cons.1 hy with rfl | hy
      · exact ha
      · exact h1 y hy
/-- a store with one blob more: what both Puts answer -/
def putL (l : List Bl) (x : Bl) (T : List Bl) : Prop := ((∃ y ∈ l, y.d = x.d) ∧ T = l) ∨ ((∀ y ∈ l, y.d ≠ x.d) ∧ ∃ k, (∀ y ∈ l.take k, dls y.d x.d = true) ∧ (∀ y, l[k]? = some y → dls y.d x.d = false) ∧ T = l.take k ++ x :: l.drop k)
theorem uni_put {l M : List Bl} {x : Bl} {h : ∀ y ∈ l ++ [x], OkB y} (hs : SrtB (l ++ [x]) M h) (hl : AscB l) : putL l x (cptK M (l ++ [x]).length) := by
  by_cases he : ∃ y ∈ l, y.d = x.d
  · exact .inl ⟨he, uni_old hs hl he⟩
  · have hno : ∀ y ∈ l, y.d ≠ x.d := fun y hy e => he ⟨y, hy, e⟩
    obtain ⟨k, h1, h2⟩ := ins_place (x := x) hl
    exact .inr ⟨hno, k, h1, h2, uni_new hs hl hno h1 h2⟩
theorem putL_asc {l T : List Bl} {x : Bl} (hl : AscB l) (h : putL l x T) : AscB T := by
  rcases h with ⟨_, rfl⟩ | ⟨hno, k, h1, h2, rfl⟩
  · exact hl
  · exact asc_ins hl hno h1 h2
theorem putL_mem {l T : List Bl} {x : Bl} (h : putL l x T) (z : Bl) : z ∈ T ↔ z ∈ l ∨ (z = x ∧ ∀ y ∈ l, y.d ≠ x.d) := by
  rcases h with ⟨⟨y, hy, e⟩, rfl⟩ | ⟨hno, k, h1, h2, rfl⟩
  · exact ⟨.inl, fun h => h.elim id (fun h => absurd e (h.2 y hy))⟩
  · have hz : z ∈ l ↔ z ∈ l.take k ∨ z ∈ l.drop k := by
      conv => lhs; rw [← List.take_append_drop k l]
      exact List.mem_append
    rw [List.mem_append, List.mem_cons, hz]
    constructor
    · rintro (h | h | h)
      · exact .inl (.inl h)
      · exact .inr ⟨h, hno⟩
      · exact .inl (.inr h)
    · rintro ((h | h) | ⟨h, _⟩)
      · exact .inl h
      · exact .inr (.inr h)
      · exact .inr (.inl h)
/-- one answer -/
theorem putL_det {l T T' : List Bl} {x : Bl} (hl : AscB l) (h : putL l x T) (h' : putL l x T') : T = T' := srt_ext (putL_asc hl h) (putL_asc hl h') (fun z => (putL_mem h z).trans (putL_mem h' z).symm)
theorem putL_len {l T : List Bl} {x : Bl} (h : putL l x T) : T.length = l.length ∨ T.length = l.length + 1 := by
  rcases h with ⟨_, rfl⟩ | ⟨_, k, _, _, rfl⟩
  · exact .inl rfl
  · refine .inr ?_
    have : (l.take k).length + (l.drop k).length = l.length := by rw [← List.length_append, List.take_append_drop]
    rw [List.length_append, List.length_cons]; omega
end Go.Proofs.YtdjknefbaclleaaGreatDoor

namespace Go.Proofs.YtdjknefbaclleaaGreatDoor
open Go.RowKit Go.Sort

def zD : Value := .agg (Array.replicate 32 (Value.int .u8 0))
/-- what Put answers -/
def PutR (l : List Bl) (x : Bl) (base : Nat) (e : Ending) (w' : World) : Prop :=
  (vldP (l.map bp) = false ∧ e = .returned (.tuple #[.slice none 0 0, zD, .int .i64 1])) ∨
  (vldP (l.map bp) = true ∧ 262144 < x.n ∧ e = .returned (.tuple #[.slice none 0 0, zD, .int .i64 3])) ∨
  (vldP (l.map bp) = true ∧ x.n ≤ 262144 ∧ ∃ T, putL l x T ∧ ((256 < T.length ∧ e = .returned (.tuple #[.slice none 0 0, zD, .int .i64 3])) ∨
    (T.length ≤ 256 ∧ ∃ sp' cap' L m, e = .returned (.tuple #[.slice sp' m cap', .agg (dg x.b), .int .i64 0]) ∧ m = T.length ∧ L.length = m ∧ L.map bp = T.map bp ∧ Sto w' base sp' m cap' L)))
theorem buildZ (w : World) : (Instr.build 29 #[]).run Tryz.prog w = .ok (.agg (Array.replicate 32 (Value.int .u8 0))) w := by kernel_rfl
theorem zD_one : (Array.replicate 32 (Value.int .u8 0)).all (·.oneCell') = true :=
  Array.all_eq_true_iff_forall_mem.2 (fun x hx => by rw [(Array.mem_replicate.1 hx).2]; rfl)
theorem Sto.rest {w w' : World} {base row : Nat} {sp : Option Addr} {n c : Nat} {l : List Bl} (h : Sto w base sp n c l) (hg : w.grownBy w' (some row)) (hlt : row < base) : Sto w' base sp n c l :=
  ⟨⟨h.own.1.kept hg (own_neG h.own.1 hlt), h.own.2⟩, fun x hx => ⟨(h.dat x hx).1.kept hg (own_neG (h.dat x hx).1 hlt), (h.dat x hx).2⟩⟩
theorem Sto.base {w : World} {b b' : Nat} {sp : Option Addr} {n c : Nat} {l : List Bl} (h : Sto w b sp n c l) (hb : b' ≤ b) : Sto w b' sp n c l := ⟨h.own.base hb, fun x hx => (h.dat x hx).base hb⟩
theorem Zrow.again {w : World} {b : Nat} (h : Zrow w b) : Zrow (w.setRow b (Array.replicate 32 (Value.int .u8 0))) b := setRow_heap _ _ _ _ _ _ h
set_option maxRecDepth 100000 in
set_option maxHeartbeats 2000000 in
theorem put_any (sp0 : Option Addr) (n0 cap0 : Nat) (l : List Bl) (sp : Option Addr) (n cap : Nat) (b : List Int) (w : World) (hl : BlsIn w w.heap.size sp0 n0 cap0 l) (hnil0 : sp0 = none → cap0 = 0) (hn0 : n0 ≤ 999999) (hs : Src w w.heap.size sp n cap b) (hnil : sp = none → cap = 0) (hk : KayIn w) (hk0 : 1 < w.heap.size) :
    Calls Tryz.prog 27 #[.slice sp0 n0 cap0, .slice sp n cap] w fun e w' => PutR l ⟨shb b, sp, n, cap, b⟩ w.heap.size e w' ∧ Below w.heap.size w w' := by
  have HL := Lib.hid hl; have HNIL0 := Lib.hid hnil0; have HS := Lib.hid hs; have HK := Lib.hid hk; have HNIL := Lib.hid hnil
  have HX : Hid (OkB (⟨shb b, sp, n, cap, b⟩ : Bl)) := shb_ok b
  have HN := Lib.hid (NewZ.new w)
  have HI0 := Lib.hid (show (Tryz.prog.info? 29).map (·.size) = some (Array.replicate 32 (Value.int .u8 0)).size from rfl)
  clear hl hs hnil0 hk hnil
  obtain ⟨vb, hvb⟩ : ∃ vb, vldP (l.map bp) = vb := ⟨_, rfl⟩
  have HVB := Lib.hid hvb
  go_enter Tryz.func27, Tryz.ntmps27
  go_wp2_with fail
  generalize hw0 : World.alloc w _ = w0
  have hz : NewZ w w0 := by rw [← hw0]; exact HN.out
  clear hw0 HN
  have HZ := Lib.hid hz; clear hz
  refine (valid_bls sp0 n0 cap0 l w0 (HL.out.up HZ.out.b (Nat.le_refl _)) (by omega)).mono ?_
  rintro e w1 ⟨rfl, hb1⟩
  have HZ1 := Lib.hid (HZ.out.z.below hb1 HZ.out.z.lt)
  have HB1 := Lib.hid (HZ.out.b.trans (hb1.mono HZ.out.b.size)); 
  have hs1 : w.heap.size < w1.heap.size := Nat.lt_of_lt_of_le HZ.out.z.lt hb1.size
  clear hb1
  rw [hvb]
  clear hvb
  cases vb
  · go_wp2_with (first
      | (refine wpList_build_eqG rfl 29 [] rfl [] rfl _ (buildZ _) ?_)
      | (refine wpList_store_row rfl 29 _ _ rfl w.heap.size _ rfl rfl 29 _ HZ1.out HI0.out rfl zD_one ?_; have HG1 := Lib.hid HZ1.out.again; have HB2 := Lib.hid (below_setRow HB1.out (Nat.le_refl _) (Array.replicate 32 (Value.int .u8 0))); generalize hw2 : w1.setRow w.heap.size _ = w2 at *; clear hw2))
    refine bodyPost_ret (results_mixG (P := Tryz.prog) rfl _ _ w.heap.size 29 _ (0, 0) _ rfl HG1.out Tryz.underlying29 rfl HI0.out) rfl ?_
    exact ⟨.inl ⟨HVB.out, rfl⟩, HB2.out⟩
  by_cases hn : n ≤ 262144
  case neg =>
    have hd : decide ((n : Int) > 262144) = true := by simp; omega
    go_wp2_with (first
      | (refine wpList_build_eqG rfl 29 [] rfl [] rfl _ (buildZ _) ?_)
      | (refine wpList_store_row rfl 29 _ _ rfl w.heap.size _ rfl rfl 29 _ HZ1.out HI0.out rfl zD_one ?_; have HG1 := Lib.hid HZ1.out.again; have HB2 := Lib.hid (below_setRow HB1.out (Nat.le_refl _) (Array.replicate 32 (Value.int .u8 0))); generalize hw2 : w1.setRow w.heap.size _ = w2 at *; clear hw2))
    refine bodyPost_ret (results_mixG (P := Tryz.prog) rfl _ _ w.heap.size 29 _ (0, 0) _ rfl HG1.out Tryz.underlying29 rfl HI0.out) rfl ?_
    exact ⟨.inr (.inl ⟨HVB.out, Nat.lt_of_not_le hn, rfl⟩), HB2.out⟩
  have hd : decide ((n : Int) > 262144) = false := by simp; omega
  have HSUM := Lib.hid (Sum_any sp n cap b w1 ((HS.out.below HB1.out (Nat.le_refl _)).more HB1.out.size) (HK.out.below HB1.out hk0) (by have := HB1.out.size; omega) (by omega))
  go_wp2_with fail
  refine HSUM.out.mono ?_
  rintro e w2 ⟨rfl, hb2⟩
  have HZ2 := Lib.hid (HZ1.out.below hb2 HZ1.out.lt)
  have HB2 := Lib.hid (HB1.out.trans (hb2.mono HB1.out.size))
  have hs2 : w.heap.size < w2.heap.size := Nat.lt_of_lt_of_le hs1 hb2.size
  clear hb2
  have HD := Lib.hid (heap_alloc_new w2 (.cells (Array.replicate 32 (Value.int .u8 0)) 29))
  go_wp2_with (first
    | (refine wpList_store_row rfl 29 _ _ rfl w2.heap.size _ rfl rfl 29 _ HD.out (dg_info _) (by rw [dg_size]; rfl) (dg_one _) ?_; rw [setRow_new]; generalize hw3 : World.alloc w2 _ = w3; have hr3 : w3.rangeAt w2.heap.size 0 ((shb b).map (Value.int .u8)) := (by rw [← hw3]; exact range_row (pre := []) (post := []) (heap_alloc_new w2 _) (by simp; rfl) rfl); have hb3 : Below w2.heap.size w2 w3 := (by rw [← hw3]; exact (Below.refl _ _).alloc (Nat.le_refl _) _); have hs3 : w2.heap.size < w3.heap.size := (by rw [← hw3]; simp); have HR3 := Lib.hid hr3; have HZ3 := Lib.hid (HZ2.out.below hb3 HZ2.out.lt); have HB3 := Lib.hid (HB2.out.trans (hb3.mono HB2.out.size)); have HI3 := Lib.hid (info_d (shb_ok b)); clear hw3 hr3 hb3)
    | (refine wpList_load_mid rfl 29 _ rfl w2.heap.size 0 rfl _ _ HR3.out Tryz.underlying29 rfl HI3.out ?_)
    | (refine wpList_build_eqG rfl 50 [(0, .tmp 20), (1, .tmp 21)] rfl [(0, .agg ((shb b).map (Value.int .u8)).toArray), (1, .slice sp n cap)] rfl _ (buildB ⟨shb b, sp, n, cap, b⟩ HX.out _) ?_)
    | (refine wpList_slice_eqG rfl 24 1 [(0, .tmp 22)] rfl [(0, .agg (blL ⟨shb b, sp, n, cap, b⟩).toArray)] rfl _ _ (sliceB _ ⟨shb b, sp, n, cap, b⟩ HX.out) ?_; generalize hw4 : World.alloc w3 _ = w4; have hz4 : BlB w4 w3.heap.size ⟨shb b, sp, n, cap, b⟩ := (by rw [← hw4]; exact heap_alloc_new w3 _); have hb4 : Below w3.heap.size w3 w4 := (by rw [← hw4]; exact (Below.refl _ _).alloc (Nat.le_refl _) _); have hs4 : w3.heap.size < w4.heap.size := (by rw [← hw4]; simp); have HR4 := Lib.hid (range_belowG HR3.out hb4 hs3); have HE4 := Lib.hid hz4; have HZ4 := Lib.hid (HZ3.out.below hb4 HZ3.out.lt); have HB4 := Lib.hid (HB3.out.trans (hb4.mono HB3.out.size)); clear hw4 hz4 hb4))
  have hdat : ∀ W, Below w.heap.size w W → DatIn W W.heap.size ⟨shb b, sp, n, cap, b⟩ := fun W hb => ⟨(HS.out.below hb (Nat.le_refl _)).more hb.size, HNIL.out⟩
  have HDAT := Lib.hid hdat; clear hdat
  have hbl : BlsIn w4 w4.heap.size (some ⟨w3.heap.size, 0, none⟩) 1 1 [⟨shb b, sp, n, cap, b⟩] := ⟨rfl, fun x hx => by rw [List.mem_singleton.1 hx]; exact HX.out, fun x hx => by rw [List.mem_singleton.1 hx]; exact HDAT.out w4 HB4.out, fun _ => ⟨w3.heap.size, 0, rfl, hs4, Nat.le_refl _, fun i x hi => by
    have hi0 : i = 0 := by have := (List.getElem?_eq_some_iff.1 hi).1; simp at this; omega
    subst hi0
    have e : ⟨shb b, sp, n, cap, b⟩ = x := by simpa using hi
    subst e
    exact HE4.out.all⟩⟩
  have HLB := Lib.hid (show ∀ y ∈ l ++ [(⟨shb b, sp, n, cap, b⟩ : Bl)], OkB y from fun y hy => by
    rcases List.mem_append.1 hy with hy | hy
    · exact HL.out.ok y hy
    · rw [List.mem_singleton.1 hy]; exact HX.out)
  have hl4 := HL.out.up HB4.out (Nat.le_refl _)
  refine (unionB_any sp0 n0 cap0 l (some ⟨w3.heap.size, 0, none⟩) 1 1 [⟨shb b, sp, n, cap, b⟩] w4 hl4 hbl HNIL0.out (fun e => by cases e) (by omega) (by omega) HLB.out).mono ?_
  rintro e w5 ⟨g5, m5, cap5, M, rfl, hsrt, hm5, ho5, hb5⟩
  have HPL := Lib.hid (uni_put hsrt (AscB.of_vld HVB.out))
  generalize hT : cptK M (l ++ [(⟨shb b, sp, n, cap, b⟩ : Bl)]).length = T at *
  have HM5 := Lib.hid hm5
  have HO5 := Lib.hid ho5
  have HR5 := Lib.hid (range_belowG HR4.out hb5 (by omega))
  have HZ5 := Lib.hid (HZ4.out.below hb5 HZ4.out.lt)
  have HB5 := Lib.hid (HB4.out.trans (hb5.mono HB4.out.size))
  have hs5 := hb5.size
  clear ho5 hb5 hbl hT hl4 hsrt hm5
  by_cases hgt : m5 ≤ 256
  case neg =>
    have hd5 : decide ((m5 : Int) > 256) = true := by simp; omega
    go_wp2_with (first
      | (refine wpList_build_eqG rfl 29 [] rfl [] rfl _ (buildZ _) ?_)
      | (refine wpList_store_row rfl 29 _ _ rfl w.heap.size _ rfl rfl 29 _ HZ5.out HI0.out rfl zD_one ?_; have HG1 := Lib.hid HZ5.out.again; have HB6 := Lib.hid (below_setRow HB5.out (Nat.le_refl _) (Array.replicate 32 (Value.int .u8 0))); generalize hw2 : w5.setRow w.heap.size _ = w6 at *; clear hw2))
    refine bodyPost_ret (results_mixG (P := Tryz.prog) rfl _ _ w.heap.size 29 _ (0, 0) _ rfl HG1.out Tryz.underlying29 rfl HI0.out) rfl ?_
    exact ⟨.inr (.inr ⟨HVB.out, hn, T, HPL.out, .inl ⟨by have := HM5.out; omega, rfl⟩⟩), HB6.out⟩
  have hd5 : decide ((m5 : Int) > 256) = false := by simp; omega
  go_wp2_with fail
  have HD5 : Hid (Below w.heap.size w w5.drew) := HB5.out.drew
  have HTM := Lib.hid (putL_mem HPL.out)
  have htd : ∀ y ∈ T, DatIn w5.drew w5.drew.heap.size y := fun y hy => by
    rcases (HTM.out y).1 hy with h | ⟨h, _⟩
    · exact (HL.out.dat y h).up HD5.out (Nat.le_refl _)
    · rw [h]; exact HDAT.out _ HD5.out
  have htn : ∀ y ∈ T, y.n ≤ 1000000000000 := fun y hy => by
    rcases (HTM.out y).1 hy with h | ⟨h, _⟩
    · have hv := HVB.out
      unfold vldP at hv
      rw [Bool.and_eq_true] at hv
      have h3 := List.all_eq_true.1 hv.2 (bp y) (List.mem_map_of_mem h)
      have h4 : y.b.length ≤ 262144 := of_decide_eq_true h3
      have h5 := (HL.out.dat y h).src.len
      omega
    · rw [h]; show n ≤ _; omega
  have hod : OwnB w5.drew w4.heap.size (.slice (some ⟨g5, 0, none⟩) m5 cap5) T := HO5.out
  have HCON := Lib.hid (duplicates_any (some ⟨g5, 0, none⟩) m5 cap5 T w5.drew (hod.bls HM5.out.symm htd) (by omega) htn)
  clear hod htd htn
  refine wp_region_held_drew (S := fun w' => w'.rangeAt w2.heap.size 0 ((shb b).map (Value.int .u8))) (by kernel_rfl) HR5.out (fun hHeld => ?_)
  refine wpAnyH_take (i := 0) (oi := _) (v := ?v0n1) rfl (by kernel_rfl) (by kernel_rfl) (by kernel_rfl) (fun _ _ _ h => h) (Or.inl ⟨by rfl, ?hy0n1⟩) (by assumption) ?rest0n1
  case hy0n1 =>
    intro w' hSw
    go_simp
    try with_reducible rfl
  try simp only [Act.put, List.getElem_toArray, List.getElem_cons_succ, List.getElem_cons_zero, List.setIfInBounds_toArray, List.set_cons_zero, List.set_cons_succ]
  refine' wpAnyH_take (i := 2) (oi := _) (v := _) rfl (by kernel_rfl) (by kernel_rfl) (by kernel_rfl) (fun _ _ _ h => h) (yieldsIf_load_mid (by rfl) _ _ rfl _ _ rfl _ _ ?hS2n2 Tryz.underlying29 rfl HI3.out) (by assumption) ?rest2n2
  case hS2n2 =>
    intro w' hSw
    exact hSw
  try simp only [Act.put, List.getElem_toArray, List.getElem_cons_succ, List.getElem_cons_zero, List.setIfInBounds_toArray, List.set_cons_zero, List.set_cons_succ]
  refine wpAnyH_ready (rs := [1]) (by kernel_rfl) (by simp) (AllReadyH.cons (o := _) rfl (fun K hK => ?_) AllReadyH.nil)
  go_simp
  with_reducible refine (HCON.out).mono ?_
  rintro e w6 ⟨sp6, cap6, L6, rfl, hl6, hm6, ho6, hb6⟩
  have HR6 := Lib.hid (range_belowG (w := w5.drew) HR5.out hb6 (show w2.heap.size < w5.heap.size by omega))
  have HZ6 := Lib.hid (Zrow.below (w := w5.drew) HZ5.out hb6 (show w.heap.size < w5.heap.size by omega))
  have HB6 := Lib.hid (HD5.out.trans (hb6.mono HD5.out.size))
  have HO6 := Lib.hid ho6; have HL6 := Lib.hid hl6; have HM6 := Lib.hid hm6
  have hs6 : w5.heap.size ≤ w6.heap.size := hb6.size
  clear ho6 hl6 hm6 hb6
  go_wp2_with fail
  refine hK.out _ _ HR6.out (fun hHeld => ?_)
  clear hK K
  try simp only [Act.put, List.getElem_toArray, List.getElem_cons_succ, List.getElem_cons_zero, List.setIfInBounds_toArray, List.set_cons_zero, List.set_cons_succ]
  refine wpAnyH_take (i := 3) (oi := _) (v := ?v3n3) rfl (by kernel_rfl) (by kernel_rfl) (by kernel_rfl) (fun _ _ _ h => h) (Or.inl ⟨by rfl, ?hy3n3⟩) (by assumption) ?rest3n3
  case hy3n3 =>
    intro w' hSw
    go_simp
    try with_reducible rfl
  try simp only [Act.put, List.getElem_toArray, List.getElem_cons_succ, List.getElem_cons_zero, List.setIfInBounds_toArray, List.set_cons_zero, List.set_cons_succ]
  refine wpAnyH_ready (rs := [4]) (by kernel_rfl) (by simp) (AllReadyH.cons (o := _) rfl (fun K hK => ?_) AllReadyH.nil)
  rw [if_pos (by rfl)]
  refine wp_store_row 29 _ _ rfl w.heap.size _ rfl rfl 29 _ HZ6.out (by simpa using HI3.out) (by simp [shb_len]) (oneCell_map _ _) ?_
  have hg7 : (w6.setRow w.heap.size ((shb b).map (Value.int .u8)).toArray).heap[w.heap.size]? = some (.cells ((shb b).map (Value.int .u8)).toArray 29 (0, 0)) := setRow_heap _ _ _ _ _ _ HZ6.out
  have hgr7 := grown_setRowG w6 w.heap.size ((shb b).map (Value.int .u8)).toArray
  have hb7 : Below w.heap.size w (w6.setRow w.heap.size ((shb b).map (Value.int .u8)).toArray) := below_setRow HB6.out (Nat.le_refl _) _
  have hr7 : (w6.setRow w.heap.size ((shb b).map (Value.int .u8)).toArray).rangeAt w2.heap.size 0 ((shb b).map (Value.int .u8)) := range_grownG HR6.out hgr7 (by omega) (by omega)
  generalize hw7 : w6.setRow w.heap.size _ = w7 at hg7 hgr7 hb7 hr7
  have HG7 := Lib.hid hg7; have HGR7 := Lib.hid hgr7; have HB7 := Lib.hid hb7; have HR7 := Lib.hid hr7
  clear hw7 hg7 hgr7 hb7 hr7
  refine hK.out _ _ HR7.out (fun hHeld => ?_)
  clear hK K
  try simp only [Act.put, List.getElem_toArray, List.getElem_cons_succ, List.getElem_cons_zero, List.setIfInBounds_toArray, List.set_cons_zero, List.set_cons_succ]
  refine wpAnyH_take (i := 5) (oi := _) (v := ?v5n4) rfl (by kernel_rfl) (by kernel_rfl) (by kernel_rfl) (fun _ _ _ h => h) (Or.inl ⟨by rfl, ?hy5n4⟩) (by assumption) ?rest5n4
  case hy5n4 =>
    intro w' hSw
    go_simp
    try with_reducible rfl
  try simp only [Act.put, List.getElem_toArray, List.getElem_cons_succ, List.getElem_cons_zero, List.setIfInBounds_toArray, List.set_cons_zero, List.set_cons_succ]
  refine wpAnyH_done (by kernel_rfl) ?_ _
  clear hHeld
  go_wp2_with fail
  refine bodyPost_ret (results_mixG (P := Tryz.prog) rfl _ _ w.heap.size 29 _ (0, 0) _ rfl HG7.out Tryz.underlying29 rfl (by simpa using HI3.out)) rfl ?_
  exact ⟨.inr (.inr ⟨HVB.out, hn, T, HPL.out, .inr ⟨by have := HM5.out; omega, sp6, cap6, L6, m5, rfl, HM5.out, HL6.out, HM6.out, (HO6.out.rest HGR7.out (show w.heap.size < w5.heap.size by omega)).base (show w.heap.size ≤ w5.heap.size by omega)⟩⟩), HB7.out⟩
end Go.Proofs.YtdjknefbaclleaaGreatDoor

namespace Go.Proofs.YtdjknefbaclleaaGreatDoor
open Go.RowKit Go.Sort

/-- what the reference's Put answers -/
def RPutR (l : List Bl) (x : Bl) (e : Ending) (w' : World) : Prop :=
  (vldP (l.map bp) = false ∧ e = .returned (.tuple #[.slice none 0 0, zD, .int .i64 1])) ∨
  (vldP (l.map bp) = true ∧ 262144 < x.n ∧ e = .returned (.tuple #[.slice none 0 0, zD, .int .i64 3])) ∨
  (vldP (l.map bp) = true ∧ x.n ≤ 262144 ∧ ∃ T, putL l x T ∧ ((256 < T.length ∧ e = .returned (.tuple #[.slice none 0 0, zD, .int .i64 3])) ∨
    (T.length ≤ 256 ∧ ∃ sp' cap' m, e = .returned (.tuple #[.slice sp' m cap', .agg ((x.d).map (Value.int .u8)).toArray, .int .i64 0]) ∧ m = T.length ∧ BlsIn w' w'.heap.size sp' m cap' T ∧ (sp' = none → cap' = 0))))
theorem vld_len {l : List Bl} (h : vldP (l.map bp) = true) : l.length ≤ 256 := by
  unfold vldP at h
  rw [Bool.and_eq_true, Bool.and_eq_true] at h
  have := of_decide_eq_true h.1.1
  rwa [List.length_map] at this
set_option maxRecDepth 100000 in
set_option maxHeartbeats 2000000 in
theorem rput_any (sp0 : Option Addr) (n0 cap0 : Nat) (l : List Bl) (sp : Option Addr) (n cap : Nat) (b : List Int) (w : World) (hl : BlsIn w w.heap.size sp0 n0 cap0 l) (hnil0 : sp0 = none → cap0 = 0) (hn0 : n0 ≤ 1000000) (hs : Src w w.heap.size sp n cap b) (hnil : sp = none → cap = 0) :
    Calls Tryz.prog 14 #[.slice sp0 n0 cap0, .slice sp n cap] w fun e w' => RPutR l ⟨shb b, sp, n, cap, b⟩ e w' ∧ Below w.heap.size w w' := by
  have HL := Lib.hid hl; have HNIL0 := Lib.hid hnil0; have HS := Lib.hid hs; have HNIL := Lib.hid hnil
  have HX : Hid (OkB (⟨shb b, sp, n, cap, b⟩ : Bl)) := shb_ok b
  have HN := Lib.hid (NewZ.new w)
  have HI0 := Lib.hid (show (Tryz.prog.info? 29).map (·.size) = some (Array.replicate 32 (Value.int .u8 0)).size from rfl)
  clear hl hs hnil0 hnil
  obtain ⟨vb, hvb⟩ : ∃ vb, vldP (l.map bp) = vb := ⟨_, rfl⟩
  have HV := Lib.hid hvb
  clear hvb
  go_enter Tryz.func14, Tryz.ntmps14
  go_wp2_with fail
  generalize hw0 : World.alloc w _ = w0
  have hz : NewZ w w0 := by rw [← hw0]; exact HN.out
  clear hw0 HN
  have HZ := Lib.hid hz; clear hz
  have HVC := Lib.hid (rvalid_bls sp0 n0 cap0 l w0 (HL.out.up HZ.out.b (Nat.le_refl _)) (by omega))
  rw [HV.out] at HVC
  refine HVC.out.mono ?_
  rintro e w1 ⟨rfl, hb1⟩
  have HZ1 := Lib.hid (HZ.out.z.below hb1 HZ.out.z.lt)
  have HB1 := Lib.hid (HZ.out.b.trans (hb1.mono HZ.out.b.size))
  have hs1 : w.heap.size < w1.heap.size := Nat.lt_of_lt_of_le HZ.out.z.lt hb1.size
  clear hb1
  cases vb
  · go_wp2_with (first
      | (refine wpList_build_eqG rfl 29 [] rfl [] rfl _ (buildZ _) ?_)
      | (refine wpList_store_row rfl 29 _ _ rfl w.heap.size _ rfl rfl 29 _ HZ1.out HI0.out rfl zD_one ?_; have HG1 := Lib.hid HZ1.out.again; have HBE := Lib.hid (below_setRow HB1.out (Nat.le_refl _) (Array.replicate 32 (Value.int .u8 0))); generalize hw2 : w1.setRow w.heap.size _ = w2 at *; clear hw2))
    refine bodyPost_ret (results_mixG (P := Tryz.prog) rfl _ _ w.heap.size 29 _ (0, 0) _ rfl HG1.out Tryz.underlying29 rfl HI0.out) rfl ?_
    exact ⟨.inl ⟨HV.out, rfl⟩, HBE.out⟩
  by_cases hn : n ≤ 262144
  case neg =>
    have hd : decide ((n : Int) > 262144) = true := by simp; omega
    go_wp2_with (first
      | (refine wpList_build_eqG rfl 29 [] rfl [] rfl _ (buildZ _) ?_)
      | (refine wpList_store_row rfl 29 _ _ rfl w.heap.size _ rfl rfl 29 _ HZ1.out HI0.out rfl zD_one ?_; have HG1 := Lib.hid HZ1.out.again; have HBE := Lib.hid (below_setRow HB1.out (Nat.le_refl _) (Array.replicate 32 (Value.int .u8 0))); generalize hw2 : w1.setRow w.heap.size _ = w2 at *; clear hw2))
    refine bodyPost_ret (results_mixG (P := Tryz.prog) rfl _ _ w.heap.size 29 _ (0, 0) _ rfl HG1.out Tryz.underlying29 rfl HI0.out) rfl ?_
    exact ⟨.inr (.inl ⟨HV.out, Nat.lt_of_not_le hn, rfl⟩), HBE.out⟩
  have hd : decide ((n : Int) > 262144) = false := by simp; omega
  have HVL := Lib.hid (vld_len HV.out)
  have HSUM := Lib.hid (refSum_any sp n cap b w1 ((HS.out.below HB1.out (Nat.le_refl _)).more HB1.out.size) HNIL.out (by omega))
  go_wp2_with fail
  refine HSUM.out.mono ?_
  rintro e w2 ⟨rfl, hb2⟩
  have HZ2 := Lib.hid (HZ1.out.below hb2 HZ1.out.lt)
  have HB2 := Lib.hid (HB1.out.trans (hb2.mono HB1.out.size))
  have hs2 : w.heap.size < w2.heap.size := Nat.lt_of_lt_of_le hs1 hb2.size
  have HZ2L := Lib.hid hs2
  clear hb2 hs1
  have HD := Lib.hid (heap_alloc_new w2 (.cells (Array.replicate 32 (Value.int .u8 0)) 29))
  go_wp2_with (first
    | (refine wpList_store_row rfl 29 _ _ rfl w2.heap.size _ rfl rfl 29 _ HD.out (dg_info _) (by rw [dg_size]; rfl) (dg_one _) ?_; rw [setRow_new]; generalize hw3 : World.alloc w2 _ = w3; have hr3 : w3.rangeAt w2.heap.size 0 ((shb b).map (Value.int .u8)) := (by rw [← hw3]; exact range_row (pre := []) (post := []) (heap_alloc_new w2 _) (by simp; rfl) rfl); have hb3 : Below w2.heap.size w2 w3 := (by rw [← hw3]; exact (Below.refl _ _).alloc (Nat.le_refl _) _); have hs3 : w2.heap.size < w3.heap.size := (by rw [← hw3]; simp); have HR3 := Lib.hid hr3; have HZ3 := Lib.hid (HZ2.out.below hb3 HZ2.out.lt); have HB3 := Lib.hid (HB2.out.trans (hb3.mono HB2.out.size)); have HS3 := Lib.hid hs3; have HI3 := Lib.hid (info_d (shb_ok b)); clear hw3 hr3 hb3 hs3)
    | (refine wpList_load_mid rfl 29 _ rfl w2.heap.size 0 rfl _ _ HR3.out Tryz.underlying29 rfl HI3.out ?_))
  refine (rget_any sp0 n0 cap0 l (shb b) w3 (HL.out.up HB3.out (Nat.le_refl _)) (by omega) (shb_ok b)).mono ?_
  rintro e w5 ⟨hcase, hb5⟩
  have HR5 := Lib.hid (range_belowG HR3.out hb5 HS3.out)
  have HZ5 := Lib.hid (HZ3.out.below hb5 HZ3.out.lt)
  have HB5 := Lib.hid (HB3.out.trans (hb5.mono HB3.out.size))
  have HL5 := Lib.hid (Nat.lt_of_lt_of_le HS3.out hb5.size)
  clear hb5
  rcases hcase with ⟨rfl, hno⟩ | ⟨k, y, rfl, hy, hyd, _⟩
  · have HFND := Lib.hid hno; clear hno
    have hn256 : n0 ≤ 256 := by have := HVL.out; have := HL.out.len; omega
    by_cases hfull : n0 = 256
    · have hd2 : ((n0 : Int) == 256) = true := by simp; omega
      obtain ⟨kp, hp1, hp2⟩ := ins_place (x := (⟨shb b, sp, n, cap, b⟩ : Bl)) (AscB.of_vld HV.out)
      have HP := Lib.hid (show putL l (⟨shb b, sp, n, cap, b⟩ : Bl) _ from .inr ⟨HFND.out, kp, hp1, hp2, rfl⟩)
      have HTL := Lib.hid (show 256 < (l.take kp ++ (⟨shb b, sp, n, cap, b⟩ : Bl) :: l.drop kp).length by
        have h1 : (l.take kp).length + (l.drop kp).length = l.length := by rw [← List.length_append, List.take_append_drop]
        have h2 := HL.out.len
        rw [List.length_append, List.length_cons]; omega)
      clear hp1 hp2
      go_wp2_with (first
        | (refine wpList_build_eqG rfl 29 [] rfl [] rfl _ (buildZ _) ?_)
        | (refine wpList_store_row rfl 29 _ _ rfl w.heap.size _ rfl rfl 29 _ HZ5.out HI0.out rfl zD_one ?_; have HG1 := Lib.hid HZ5.out.again; have HBE := Lib.hid (below_setRow HB5.out (Nat.le_refl _) (Array.replicate 32 (Value.int .u8 0))); generalize hw2 : w5.setRow w.heap.size _ = w2 at *; clear hw2))
      refine bodyPost_ret (results_mixG (P := Tryz.prog) rfl _ _ w.heap.size 29 _ (0, 0) _ rfl HG1.out Tryz.underlying29 rfl HI0.out) rfl ?_
      exact ⟨.inr (.inr ⟨HV.out, hn, _, HP.out, .inl ⟨HTL.out, rfl⟩⟩), HBE.out⟩
    have hd2 : ((n0 : Int) == 256) = false := by simp; omega
    go_wp2_with fail
    have HR9' := Lib.hid (show w5.drew.rangeAt w2.heap.size 0 ((shb b).map (Value.int .u8)) from HR5.out)
    have HBD := Lib.hid HB5.out.drew
    have HLD := Lib.hid (show BlsIn w5.drew w5.drew.heap.size sp0 n0 cap0 l from HL.out.up HBD.out (Nat.le_refl _))
    have HDX := Lib.hid (show DatIn w5.drew w5.drew.heap.size ⟨shb b, sp, n, cap, b⟩ from (show DatIn w w.heap.size ⟨shb b, sp, n, cap, b⟩ from ⟨HS.out, HNIL.out⟩).up HBD.out (Nat.le_refl _))
    have HCON := Lib.hid (rinsertB_any sp0 n0 cap0 l ⟨shb b, sp, n, cap, b⟩ w5.drew HLD.out HNIL0.out HX.out HDX.out (by omega))
    refine wp_region_held_drew (S := fun w' => w'.rangeAt w2.heap.size 0 ((shb b).map (Value.int .u8))) (by kernel_rfl) HR9'.out (fun hHeld => ?_)
    refine wpAnyH_take (i := 0) (oi := _) (v := ?v0n5) rfl (by kernel_rfl) (by kernel_rfl) (by kernel_rfl) (fun _ _ _ h => h) (Or.inl ⟨by rfl, ?hy0n5⟩) (by assumption) ?rest0n5
    case hy0n5 =>
      intro w' hSw
      go_simp
      try with_reducible rfl
    try simp only [Act.put, List.getElem_toArray, List.getElem_cons_succ, List.getElem_cons_zero, List.setIfInBounds_toArray, List.set_cons_zero, List.set_cons_succ]
    refine' wpAnyH_take (i := 1) (oi := _) (v := _) rfl (by kernel_rfl) (by kernel_rfl) (by kernel_rfl) (fun _ _ _ h => h) (yieldsIf_load_mid (by rfl) _ _ rfl _ _ rfl _ _ ?hS1n6 Tryz.underlying29 rfl HI3.out) (by assumption) ?rest1n6
    case hS1n6 =>
      intro w' hSw
      exact hSw
    try simp only [Act.put, List.getElem_toArray, List.getElem_cons_succ, List.getElem_cons_zero, List.setIfInBounds_toArray, List.set_cons_zero, List.set_cons_succ]
    refine wpAnyH_take (i := 2) (oi := _) (v := ?v2n7) rfl (by kernel_rfl) (by kernel_rfl) (by kernel_rfl) (fun _ _ _ h => h) (Or.inl ⟨by rfl, ?hy2n7⟩) (by assumption) ?rest2n7
    case hy2n7 =>
      intro w' hSw
      go_simp
      try with_reducible rfl
    try simp only [Act.put, List.getElem_toArray, List.getElem_cons_succ, List.getElem_cons_zero, List.setIfInBounds_toArray, List.set_cons_zero, List.set_cons_succ]
    refine wpAnyH_take (i := 3) (oi := _) (v := _) rfl (by kernel_rfl) (by kernel_rfl) (by kernel_rfl) (fun _ _ _ h => h) (yieldsIf_buildB (by rfl) 50 [(0, .tmp 34), (1, .tmp 35)] rfl [(0, .agg ((shb b).map (Value.int .u8)).toArray), (1, .slice sp n cap)] rfl _ (fun w' _ => buildB ⟨shb b, sp, n, cap, b⟩ HX.out w')) (by assumption) ?rest3n8
    try simp only [Act.put, List.getElem_toArray, List.getElem_cons_succ, List.getElem_cons_zero, List.setIfInBounds_toArray, List.set_cons_zero, List.set_cons_succ]
    refine' wpAnyH_take (i := 5) (oi := _) (v := _) rfl (by kernel_rfl) (by kernel_rfl) (by kernel_rfl) (fun _ _ _ h => h) (yieldsIf_load_mid (by rfl) _ _ rfl _ _ rfl _ _ ?hS5n9 Tryz.underlying29 rfl HI3.out) (by assumption) ?rest5n9
    case hS5n9 =>
      intro w' hSw
      exact hSw
    try simp only [Act.put, List.getElem_toArray, List.getElem_cons_succ, List.getElem_cons_zero, List.setIfInBounds_toArray, List.set_cons_zero, List.set_cons_succ]
    refine wpAnyH_ready (rs := [4]) (by kernel_rfl) (by simp) (AllReadyH.cons (o := _) rfl (fun K hK => ?_) AllReadyH.nil)
    go_simp
    with_reducible refine (HCON.out).mono ?_
    rintro e w6 ⟨sp6, cap6, k, rfl, ho6, h1, h2, hb6⟩
    have HR9 := Lib.hid (range_belowG (w := w5.drew) HR5.out hb6 (show w2.heap.size < w5.heap.size from HL5.out))
    have HZ9 := Lib.hid (Zrow.below (w := w5.drew) HZ5.out hb6 (show w.heap.size < w5.heap.size from Nat.lt_of_lt_of_le HZ2L.out (Nat.le_of_lt HL5.out)))
    have HB9 := Lib.hid (HBD.out.trans (hb6.mono HBD.out.size))
    have HO6 := Lib.hid ho6
    have HH12 := Lib.hid (And.intro h1 h2)
    have HL9 := Lib.hid (show w2.heap.size < w6.heap.size from Nat.lt_of_lt_of_le HL5.out hb6.size)
    have HN9 := Lib.hid (show w2.heap.size ≠ w.heap.size from fun h => by have := HZ2L.out; omega)
    clear ho6 h1 h2 hb6
    go_wp2_with fail
    refine hK.out _ _ HR9.out (fun hHeld => ?_)
    clear hK K
    try simp only [Act.put, List.getElem_toArray, List.getElem_cons_succ, List.getElem_cons_zero, List.setIfInBounds_toArray, List.set_cons_zero, List.set_cons_succ]
    refine wpAnyH_take (i := 6) (oi := _) (v := ?v6n10) rfl (by kernel_rfl) (by kernel_rfl) (by kernel_rfl) (fun _ _ _ h => h) (Or.inl ⟨by rfl, ?hy6n10⟩) (by assumption) ?rest6n10
    case hy6n10 =>
      intro w' hSw
      go_simp
      try with_reducible rfl
    try simp only [Act.put, List.getElem_toArray, List.getElem_cons_succ, List.getElem_cons_zero, List.setIfInBounds_toArray, List.set_cons_zero, List.set_cons_succ]
    refine wpAnyH_ready (rs := [7]) (by kernel_rfl) (by simp) (AllReadyH.cons (o := _) rfl (fun K hK => ?_) AllReadyH.nil)
    rw [if_pos (by rfl)]
    refine wp_store_row 29 _ _ rfl w.heap.size _ rfl rfl 29 _ (HZ9.out) (by simpa using HI3.out) (by simp [shb_len]) (oneCell_map _ _) ?_
    have hg7 : (World.setRow w6 w.heap.size ((shb b).map (Value.int .u8)).toArray).heap[w.heap.size]? = some (.cells ((shb b).map (Value.int .u8)).toArray 29 (0, 0)) := setRow_heap _ _ _ _ _ _ HZ9.out
    have hgr7 := grown_setRowG w6 w.heap.size ((shb b).map (Value.int .u8)).toArray
    have hb7 : Below w.heap.size w (World.setRow w6 w.heap.size ((shb b).map (Value.int .u8)).toArray) := below_setRow HB9.out (Nat.le_refl _) _
    have hr7 : (World.setRow w6 w.heap.size ((shb b).map (Value.int .u8)).toArray).rangeAt w2.heap.size 0 ((shb b).map (Value.int .u8)) := range_grownG HR9.out hgr7 HL9.out HN9.out
    generalize hw7 : World.setRow w6 w.heap.size _ = w7 at hg7 hgr7 hb7 hr7
    have HG7 := Lib.hid hg7; have HGR7 := Lib.hid hgr7; have HB7 := Lib.hid hb7; have HR7 := Lib.hid hr7
    clear hw7 hg7 hgr7 hb7 hr7
    refine hK.out _ _ HR7.out (fun hHeld => ?_)
    clear hK K
    try simp only [Act.put, List.getElem_toArray, List.getElem_cons_succ, List.getElem_cons_zero, List.setIfInBounds_toArray, List.set_cons_zero, List.set_cons_succ]
    refine wpAnyH_take (i := 8) (oi := _) (v := ?v8n11) rfl (by kernel_rfl) (by kernel_rfl) (by kernel_rfl) (fun _ _ _ h => h) (Or.inl ⟨by rfl, ?hy8n11⟩) (by assumption) ?rest8n11
    case hy8n11 =>
      intro w' hSw
      go_simp
      try with_reducible rfl
    try simp only [Act.put, List.getElem_toArray, List.getElem_cons_succ, List.getElem_cons_zero, List.setIfInBounds_toArray, List.set_cons_zero, List.set_cons_succ]
    refine wpAnyH_done (by kernel_rfl) ?_ _
    clear hHeld
    go_wp2_with fail
    refine bodyPost_ret (results_mixG (P := Tryz.prog) rfl _ _ w.heap.size 29 _ (0, 0) _ rfl HG7.out Tryz.underlying29 rfl (by simpa using HI3.out)) rfl ?_
    have HOF : OwnB w7 w.heap.size (.slice sp6 (n0 + 1) cap6) (l.take k ++ (⟨shb b, sp, n, cap, b⟩ : Bl) :: l.drop k) := ⟨own_lessG (HO6.out.1.kept HGR7.out (own_neG HO6.out.1 (show w.heap.size < w5.heap.size from Nat.lt_of_lt_of_le HZ2L.out (Nat.le_of_lt HL5.out)))) (show w.heap.size ≤ w5.heap.size from Nat.le_trans (Nat.le_of_lt HZ2L.out) (Nat.le_of_lt HL5.out)), HO6.out.2⟩
    have hle : (l.take k ++ (⟨shb b, sp, n, cap, b⟩ : Bl) :: l.drop k).length = n0 + 1 := by
      have h1 : (l.take k).length + (l.drop k).length = l.length := by rw [← List.length_append, List.take_append_drop]
      have h2 := HL.out.len
      rw [List.length_append, List.length_cons]; omega
    refine ⟨.inr (.inr ⟨HV.out, hn, _, .inr ⟨HFND.out, k, HH12.out.1, HH12.out.2, rfl⟩, .inr ⟨by omega, sp6, cap6, n0 + 1, rfl, hle.symm, HOF.bls hle (fun y hy => ?_), HOF.nilcap⟩⟩), HB7.out⟩
    rcases List.mem_append.1 hy with h | h
    · exact (HL.out.dat y (List.mem_of_mem_take h)).up HB7.out (Nat.le_refl _)
    · rcases List.mem_cons.1 h with rfl | h
      · exact (show DatIn w w.heap.size ⟨shb b, sp, n, cap, b⟩ from ⟨HS.out, HNIL.out⟩).up HB7.out (Nat.le_refl _)
      · exact (HL.out.dat y (List.mem_of_mem_drop h)).up HB7.out (Nat.le_refl _)
  · have HFND := Lib.hid (show ∃ y ∈ l, y.d = shb b from ⟨y, List.mem_of_getElem? hy, hyd⟩); clear hy hyd
    go_wp2_with fail
    have HR9 := Lib.hid (show w5.drew.rangeAt w2.heap.size 0 ((shb b).map (Value.int .u8)) from HR5.out)
    have HZ9 := Lib.hid (show Zrow w5.drew w.heap.size from HZ5.out)
    have HB9 := Lib.hid HB5.out.drew
    have HL9 := Lib.hid (show w2.heap.size < w5.drew.heap.size from HL5.out)
    have HN9 := Lib.hid (show w2.heap.size ≠ w.heap.size from fun h => by omega)
    refine wp_region_held_drew (S := fun w' => w'.rangeAt w2.heap.size 0 ((shb b).map (Value.int .u8))) (by kernel_rfl) HR9.out (fun hHeld => ?_)
    refine wpAnyH_take (i := 0) (oi := _) (v := ?v0n1) rfl (by kernel_rfl) (by kernel_rfl) (by kernel_rfl) (fun _ _ _ h => h) (Or.inl ⟨by rfl, ?hy0n1⟩) (by assumption) ?rest0n1
    case hy0n1 =>
      intro w' hSw
      go_simp
      try with_reducible rfl
    try simp only [Act.put, List.getElem_toArray, List.getElem_cons_succ, List.getElem_cons_zero, List.setIfInBounds_toArray, List.set_cons_zero, List.set_cons_succ]
    refine' wpAnyH_take (i := 1) (oi := _) (v := _) rfl (by kernel_rfl) (by kernel_rfl) (by kernel_rfl) (fun _ _ _ h => h) (yieldsIf_load_mid (by rfl) _ _ rfl _ _ rfl _ _ ?hS1n2 Tryz.underlying29 rfl HI3.out) (by assumption) ?rest1n2
    case hS1n2 =>
      intro w' hSw
      exact hSw
    try simp only [Act.put, List.getElem_toArray, List.getElem_cons_succ, List.getElem_cons_zero, List.setIfInBounds_toArray, List.set_cons_zero, List.set_cons_succ]
    refine wpAnyH_take (i := 2) (oi := _) (v := ?v2n3) rfl (by kernel_rfl) (by kernel_rfl) (by kernel_rfl) (fun _ _ _ h => h) (Or.inl ⟨by rfl, ?hy2n3⟩) (by assumption) ?rest2n3
    case hy2n3 =>
      intro w' hSw
      go_simp
      try with_reducible rfl
    try simp only [Act.put, List.getElem_toArray, List.getElem_cons_succ, List.getElem_cons_zero, List.setIfInBounds_toArray, List.set_cons_zero, List.set_cons_succ]
    refine wpAnyH_ready (rs := [3]) (by kernel_rfl) (by simp) (AllReadyH.cons (o := _) rfl (fun K hK => ?_) AllReadyH.nil)
    rw [if_pos (by rfl)]
    refine wp_store_row 29 _ _ rfl w.heap.size _ rfl rfl 29 _ (HZ9.out) (by simpa using HI3.out) (by simp [shb_len]) (oneCell_map _ _) ?_
    have hg7 : (World.setRow w5.drew w.heap.size ((shb b).map (Value.int .u8)).toArray).heap[w.heap.size]? = some (.cells ((shb b).map (Value.int .u8)).toArray 29 (0, 0)) := setRow_heap _ _ _ _ _ _ HZ9.out
    have hgr7 := grown_setRowG w5.drew w.heap.size ((shb b).map (Value.int .u8)).toArray
    have hb7 : Below w.heap.size w (World.setRow w5.drew w.heap.size ((shb b).map (Value.int .u8)).toArray) := below_setRow HB9.out (Nat.le_refl _) _
    have hr7 : (World.setRow w5.drew w.heap.size ((shb b).map (Value.int .u8)).toArray).rangeAt w2.heap.size 0 ((shb b).map (Value.int .u8)) := range_grownG HR9.out hgr7 HL9.out HN9.out
    generalize hw7 : World.setRow w5.drew w.heap.size _ = w7 at hg7 hgr7 hb7 hr7
    have HG7 := Lib.hid hg7; have HGR7 := Lib.hid hgr7; have HB7 := Lib.hid hb7; have HR7 := Lib.hid hr7
    clear hw7 hg7 hgr7 hb7 hr7
    refine hK.out _ _ HR7.out (fun hHeld => ?_)
    clear hK K
    try simp only [Act.put, List.getElem_toArray, List.getElem_cons_succ, List.getElem_cons_zero, List.setIfInBounds_toArray, List.set_cons_zero, List.set_cons_succ]
    refine wpAnyH_take (i := 4) (oi := _) (v := ?v4n4) rfl (by kernel_rfl) (by kernel_rfl) (by kernel_rfl) (fun _ _ _ h => h) (Or.inl ⟨by rfl, ?hy4n4⟩) (by assumption) ?rest4n4
    case hy4n4 =>
      intro w' hSw
      go_simp
      try with_reducible rfl
    try simp only [Act.put, List.getElem_toArray, List.getElem_cons_succ, List.getElem_cons_zero, List.setIfInBounds_toArray, List.set_cons_zero, List.set_cons_succ]
    refine wpAnyH_done (by kernel_rfl) ?_ _
    clear hHeld
    go_wp2_with fail
    refine bodyPost_ret (results_mixG (P := Tryz.prog) rfl _ _ w.heap.size 29 _ (0, 0) _ rfl HG7.out Tryz.underlying29 rfl (by simpa using HI3.out)) rfl ?_
    exact ⟨.inr (.inr ⟨HV.out, hn, l, .inl ⟨HFND.out, rfl⟩, .inr ⟨HVL.out, sp0, cap0, n0, rfl, HL.out.len.symm, HL.out.up HB7.out (Nat.le_refl _), HNIL0.out⟩⟩), HB7.out⟩
end Go.Proofs.YtdjknefbaclleaaGreatDoor

namespace Go.Proofs.YtdjknefbaclleaaGreatDoor
open Go.RowKit Go.Sort

def uOf (b : List Int) : List UInt8 := b.map fun v => UInt8.ofNat v.toNat
theorem uOf_at {b : List Int} (hb : Byt b) {j : Nat} (hj : j < (uOf b).length) : ((uOf b)[j].toNat : Int) = b.getD j 0 := by
  have hj' : j < b.length := by simpa [uOf] using hj
  have h := hb b[j] (List.getElem_mem hj')
  have e : (uOf b)[j] = UInt8.ofNat b[j].toNat := by simp [uOf]
  rw [e, List.getD_eq_getElem?_getD, List.getElem?_eq_getElem hj']
  show ((UInt8.ofNat b[j].toNat).toNat : Int) = b[j]
  rw [UInt8.toNat_ofNat']
  omega
theorem Src.bsrc {w : World} {B : Nat} {sp : Option Addr} {n cap : Nat} {b : List Int} (h : Src w B sp n cap b) : BSrc w B sp n cap (uOf b) :=
  ⟨by rw [uOf, List.length_map]; exact h.len, fun hp => by
    obtain ⟨bb, off, e, h1, h2, h3⟩ := h.cells hp
    refine ⟨bb, off, e, h1, h2, fun j hj => ?_⟩
    rw [uOf_at h.byt hj]
    exact h3 j (by rw [uOf, List.length_map] at hj; rw [← h.len]; exact hj)⟩
theorem conv_src {w : World} {B : Nat} {sp : Option Addr} {n cap : Nat} {b : List Int} (h : Src w B sp n cap b) (c2 : Nat) : (convert 42 9 (.slice sp n c2)).run Tryz.prog w = .ok (.string ⟨(uOf b).toArray⟩) w := run_conv_src h.bsrc
/-- what a round of Same reads -/
structure SamS (w : World) (a1 a2 : Addr) (b1 o1 b2 o2 : Nat) (d : List Int) (s1 s2 : Value) (s : ByteArray) : Prop where
  c1 : w.cell? a1 = some s1
  c2 : w.cell? a2 = some s2
  d1 : w.rangeAt b1 o1 (d.map (Value.int .u8))
  d2 : w.rangeAt b2 o2 (d.map (Value.int .u8))
  k1 : (convert 42 9 s1).run Tryz.prog w = .ok (.string s) w
  k2 : (convert 42 9 s2).run Tryz.prog w = .ok (.string s) w
set_option maxRecDepth 100000 in
set_option maxHeartbeats 2000000 in
theorem same05_any (sp1 : Option Addr) (n c1 : Nat) (la : List Bl) (sp2 : Option Addr) (c2 : Nat) (lb : List Bl) (w : World) (ha : BlsIn w w.heap.size sp1 n c1 la) (hb : BlsIn w w.heap.size sp2 n c2 lb) (hn : n ≤ 1000000) (hs : la.map bp = lb.map bp) :
    Calls Tryz.prog 6 #[.slice sp1 n c1, .slice sp2 n c2] w fun e w' => e = .returned (.bool true) ∧ Below w.heap.size w w' := by
  have HA := Lib.hid ha; have HBb := Lib.hid hb; have HSM := Lib.hid hs; clear ha hb hs
  have hd0 : (!((n : Int) == (n : Int))) = false := by simp
  go_enter Tryz.func6, Tryz.ntmps6
  go_wp2_with fail
  go_loopw [5] (fun i wr => ∃ k : Nat, k ≤ n ∧ i = .int .i64 k ∧ Hid (Below w.heap.size w wr)) (fun i _ => n - (intOf i).toNat)
  case atStart => exact ⟨0, Nat.zero_le _, rfl, Below.refl _ _⟩
  case round =>
    obtain ⟨k, hk, rfl, hbe⟩ := hrel
    by_cases hlt : k < n
    · have hd : decide ((k : Int) < (n : Int)) = true := by simp; omega
      obtain ⟨x, hx⟩ : ∃ x, la[k]? = some x := ⟨la[k]'(by have := HA.out.len; omega), List.getElem?_eq_getElem _⟩
      obtain ⟨y, hy⟩ : ∃ y, lb[k]? = some y := ⟨lb[k]'(by have := HBb.out.len; omega), List.getElem?_eq_getElem _⟩
      have hxy : bp x = bp y := by
        have h1 := bp_get hx
        rw [HSM.out, bp_get hy] at h1
        injection h1 with h1; exact h1.symm
      obtain ⟨yd, ys, yn, yc, yb⟩ := y
      have e1 : x.d = yd := congrArg Prod.fst hxy
      have e2 : x.b = yb := congrArg Prod.snd hxy
      subst e1; subst e2
      clear hxy
      obtain ⟨b1, o1, rfl, hb1, hcap1, hr1⟩ := HA.out.cells (by omega)
      obtain ⟨b2, o2, rfl, hb2, hcap2, hr2⟩ := HBb.out.cells (by omega)
      have HBD := Lib.hid hbe.out.drew
      have HOX := Lib.hid (HA.out.ok x (List.mem_of_getElem? hx))
      have HID := Lib.hid (info_d HOX.out)
      have HX := Lib.hid (range_belowG (hr1 k x hx) HBD.out hb1)
      have HY := Lib.hid (range_belowG (hr2 k _ hy) HBD.out hb2)
      have HSS := Lib.hid (show SamS wr.drew ⟨b1, o1 + k * 33 + 32, none⟩ ⟨b2, o2 + k * 33 + 32, none⟩ b1 (o1 + k * 33) b2 (o2 + k * 33) x.d (.slice x.sp x.n x.cap) (.slice ys yn yc) ⟨(uOf x.b).toArray⟩ from ⟨rngB_s HX.out HOX.out, rngB_s (x := ⟨x.d, ys, yn, yc, x.b⟩) HY.out HOX.out, rngB_d HX.out, rngB_d (x := ⟨x.d, ys, yn, yc, x.b⟩) HY.out, conv_src ((HA.out.dat x (List.mem_of_getElem? hx)).up HBD.out (Nat.le_refl _)).src _, conv_src ((HBb.out.dat _ (List.mem_of_getElem? hy)).up HBD.out (Nat.le_refl _)).src _⟩)
      have he : ∀ W, (binOp .neq 29 (.agg (x.d.map (Value.int .u8)).toArray) (.agg (x.d.map (Value.int .u8)).toArray)).run Tryz.prog W = .ok (.bool false) W := fun W => by
        rw [neqD x.d x.d HOX.out.1 HOX.out.1 W]; simp
      have p1 : (0 : Int) ≤ (k : Int) := by omega
      have p2 : (k : Int) < (n : Int) := by omega
      have q1 : IntKind.i64.wrap (k : Int) = (k : Int) := IntWalk.i64_in _ (by omega)
      clear hr1 hr2 hx hy
      go_wp2_with fail
      refine wp_region_held_drew (S := fun w' => SamS w' ⟨b1, o1 + k * 33 + 32, none⟩ ⟨b2, o2 + k * 33 + 32, none⟩ b1 (o1 + k * 33) b2 (o2 + k * 33) x.d (.slice x.sp x.n x.cap) (.slice ys yn yc) ⟨(uOf x.b).toArray⟩) (by kernel_rfl) HSS.out (fun hHeld => ?_)
      refine wpAnyH_take (i := 0) (oi := _) (v := ?v0n1) rfl (by kernel_rfl) (by kernel_rfl) (by kernel_rfl) (fun _ _ _ h => h) (Or.inl ⟨by rfl, ?hy0n1⟩) (by assumption) ?rest0n1
      case hy0n1 =>
        intro w' hSw
        go_simp
        try with_reducible rfl
      try simp only [Act.put, List.getElem_toArray, List.getElem_cons_succ, List.getElem_cons_zero, List.setIfInBounds_toArray, List.set_cons_zero, List.set_cons_succ]
      refine wpAnyH_take (i := 1) (oi := _) (v := ?v1n2) rfl (by kernel_rfl) (by kernel_rfl) (by kernel_rfl) (fun _ _ _ h => h) (Or.inl ⟨by rfl, ?hy1n2⟩) (by assumption) ?rest1n2
      case hy1n2 =>
        intro w' hSw
        go_simp
        try with_reducible rfl
      try simp only [Act.put, List.getElem_toArray, List.getElem_cons_succ, List.getElem_cons_zero, List.setIfInBounds_toArray, List.set_cons_zero, List.set_cons_succ]
      refine wpAnyH_take (i := 2) (oi := _) (v := ?v2n3) rfl (by kernel_rfl) (by kernel_rfl) (by kernel_rfl) (fun _ _ _ h => h) (Or.inl ⟨by rfl, ?hy2n3⟩) (by assumption) ?rest2n3
      case hy2n3 =>
        intro w' hSw
        go_simp
        try with_reducible rfl
      try simp only [Act.put, List.getElem_toArray, List.getElem_cons_succ, List.getElem_cons_zero, List.setIfInBounds_toArray, List.set_cons_zero, List.set_cons_succ]
      refine wpAnyH_take (i := 3) (oi := _) (v := ?v3n4) rfl (by kernel_rfl) (by kernel_rfl) (by kernel_rfl) (fun _ _ _ h => h) (Or.inl ⟨by rfl, ?hy3n4⟩) (by assumption) ?rest3n4
      case hy3n4 =>
        intro w' hSw
        go_simp
        try with_reducible rfl
      try simp only [Act.put, List.getElem_toArray, List.getElem_cons_succ, List.getElem_cons_zero, List.setIfInBounds_toArray, List.set_cons_zero, List.set_cons_succ]
      refine' wpAnyH_take (i := 4) (oi := _) (v := _) rfl (by kernel_rfl) (by kernel_rfl) (by kernel_rfl) (fun _ _ _ h => h) (yieldsIf_load_mid (by rfl) _ _ rfl _ _ rfl _ _ ?hS4n5 Tryz.underlying29 rfl HID.out) (by assumption) ?rest4n5
      case hS4n5 =>
        intro w' hSw
        exact hSw.d1
      try simp only [Act.put, List.getElem_toArray, List.getElem_cons_succ, List.getElem_cons_zero, List.setIfInBounds_toArray, List.set_cons_zero, List.set_cons_succ]
      refine wpAnyH_take (i := 5) (oi := _) (v := ?v5n6) rfl (by kernel_rfl) (by kernel_rfl) (by kernel_rfl) (fun _ _ _ h => h) (Or.inl ⟨by rfl, ?hy5n6⟩) (by assumption) ?rest5n6
      case hy5n6 =>
        intro w' hSw
        go_simp
        try with_reducible rfl
      try simp only [Act.put, List.getElem_toArray, List.getElem_cons_succ, List.getElem_cons_zero, List.setIfInBounds_toArray, List.set_cons_zero, List.set_cons_succ]
      refine wpAnyH_take (i := 6) (oi := _) (v := ?v6n7) rfl (by kernel_rfl) (by kernel_rfl) (by kernel_rfl) (fun _ _ _ h => h) (Or.inl ⟨by rfl, ?hy6n7⟩) (by assumption) ?rest6n7
      case hy6n7 =>
        intro w' hSw
        go_simp
        try with_reducible rfl
      try simp only [Act.put, List.getElem_toArray, List.getElem_cons_succ, List.getElem_cons_zero, List.setIfInBounds_toArray, List.set_cons_zero, List.set_cons_succ]
      refine wpAnyH_take (i := 7) (oi := _) (v := ?v7n8) rfl (by kernel_rfl) (by kernel_rfl) (by kernel_rfl) (fun _ _ _ h => h) (Or.inl ⟨by rfl, ?hy7n8⟩) (by assumption) ?rest7n8
      case hy7n8 =>
        intro w' hSw
        go_simp
        try with_reducible rfl
      try simp only [Act.put, List.getElem_toArray, List.getElem_cons_succ, List.getElem_cons_zero, List.setIfInBounds_toArray, List.set_cons_zero, List.set_cons_succ]
      refine wpAnyH_take (i := 8) (oi := _) (v := ?v8n9) rfl (by kernel_rfl) (by kernel_rfl) (by kernel_rfl) (fun _ _ _ h => h) (Or.inl ⟨by rfl, ?hy8n9⟩) (by assumption) ?rest8n9
      case hy8n9 =>
        intro w' hSw
        go_simp
        try with_reducible rfl
      try simp only [Act.put, List.getElem_toArray, List.getElem_cons_succ, List.getElem_cons_zero, List.setIfInBounds_toArray, List.set_cons_zero, List.set_cons_succ]
      refine' wpAnyH_take (i := 9) (oi := _) (v := _) rfl (by kernel_rfl) (by kernel_rfl) (by kernel_rfl) (fun _ _ _ h => h) (yieldsIf_load_mid (by rfl) _ _ rfl _ _ rfl _ _ ?hS9n10 Tryz.underlying29 rfl HID.out) (by assumption) ?rest9n10
      case hS9n10 =>
        intro w' hSw
        exact hSw.d2
      try simp only [Act.put, List.getElem_toArray, List.getElem_cons_succ, List.getElem_cons_zero, List.setIfInBounds_toArray, List.set_cons_zero, List.set_cons_succ]
      refine wpAnyH_take (i := 10) (oi := _) (v := ?v10n11) rfl (by kernel_rfl) (by kernel_rfl) (by kernel_rfl) (fun _ _ _ h => h) (Or.inl ⟨by rfl, ?hy10n11⟩) (by assumption) ?rest10n11
      case hy10n11 =>
        intro w' hSw
        go_simp
        try with_reducible rfl
      try simp only [Act.put, List.getElem_toArray, List.getElem_cons_succ, List.getElem_cons_zero, List.setIfInBounds_toArray, List.set_cons_zero, List.set_cons_succ]
      refine wpAnyH_take (i := 11) (oi := _) (v := ?v11n12) rfl (by kernel_rfl) (by kernel_rfl) (by kernel_rfl) (fun _ _ _ h => h) (Or.inl ⟨by rfl, ?hy11n12⟩) (by assumption) ?rest11n12
      case hy11n12 =>
        intro w' hSw
        go_simp
        try with_reducible rfl
      try simp only [Act.put, List.getElem_toArray, List.getElem_cons_succ, List.getElem_cons_zero, List.setIfInBounds_toArray, List.set_cons_zero, List.set_cons_succ]
      refine wpAnyH_take (i := 12) (oi := _) (v := ?v12n13) rfl (by kernel_rfl) (by kernel_rfl) (by kernel_rfl) (fun _ _ _ h => h) (Or.inl ⟨by rfl, ?hy12n13⟩) (by assumption) ?rest12n13
      case hy12n13 =>
        intro w' hSw
        go_simp
        try with_reducible rfl
      try simp only [Act.put, List.getElem_toArray, List.getElem_cons_succ, List.getElem_cons_zero, List.setIfInBounds_toArray, List.set_cons_zero, List.set_cons_succ]
      refine wpAnyH_take (i := 13) (oi := _) (v := ?v13n14) rfl (by kernel_rfl) (by kernel_rfl) (by kernel_rfl) (fun _ _ _ h => h) (Or.inl ⟨by rfl, ?hy13n14⟩) (by assumption) ?rest13n14
      case hy13n14 =>
        intro w' hSw
        go_simp
        try with_reducible rfl
      try simp only [Act.put, List.getElem_toArray, List.getElem_cons_succ, List.getElem_cons_zero, List.setIfInBounds_toArray, List.set_cons_zero, List.set_cons_succ]
      refine wpAnyH_take (i := 14) (oi := _) (v := ?v14n15) rfl (by kernel_rfl) (by kernel_rfl) (by kernel_rfl) (fun _ _ _ h => h) (Or.inl ⟨by rfl, ?hy14n15⟩) (by assumption) ?rest14n15
      case hy14n15 =>
        intro w' hSw
        go_simp
        try with_reducible rfl
      try simp only [Act.put, List.getElem_toArray, List.getElem_cons_succ, List.getElem_cons_zero, List.setIfInBounds_toArray, List.set_cons_zero, List.set_cons_succ]
      refine wpAnyH_take (i := 15) (oi := _) (v := ?v15n16) rfl (by kernel_rfl) (by kernel_rfl) (by kernel_rfl) (fun _ _ _ h => h) (Or.inl ⟨by rfl, ?hy15n16⟩) (by assumption) ?rest15n16
      case hy15n16 =>
        intro w' hSw
        go_simp
        try with_reducible rfl
      try simp only [Act.put, List.getElem_toArray, List.getElem_cons_succ, List.getElem_cons_zero, List.setIfInBounds_toArray, List.set_cons_zero, List.set_cons_succ]
      refine wpAnyH_take (i := 16) (oi := _) (v := ?v16n17) rfl (by kernel_rfl) (by kernel_rfl) (by kernel_rfl) (fun _ _ _ h => h) (Or.inl ⟨by rfl, ?hy16n17⟩) (by assumption) ?rest16n17
      case hy16n17 =>
        intro w' hSw
        have h1 := hSw.c1
        go_simp
        try with_reducible rfl
      try simp only [Act.put, List.getElem_toArray, List.getElem_cons_succ, List.getElem_cons_zero, List.setIfInBounds_toArray, List.set_cons_zero, List.set_cons_succ]
      refine wpAnyH_take (i := 17) (oi := _) (v := ?v17n18) rfl (by kernel_rfl) (by kernel_rfl) (by kernel_rfl) (fun _ _ _ h => h) (Or.inl ⟨by rfl, ?hy17n18⟩) (by assumption) ?rest17n18
      case hy17n18 =>
        intro w' hSw
        have h1 := hSw.k1
        go_simp
        try with_reducible rfl
      try simp only [Act.put, List.getElem_toArray, List.getElem_cons_succ, List.getElem_cons_zero, List.setIfInBounds_toArray, List.set_cons_zero, List.set_cons_succ]
      refine wpAnyH_take (i := 18) (oi := _) (v := ?v18n19) rfl (by kernel_rfl) (by kernel_rfl) (by kernel_rfl) (fun _ _ _ h => h) (Or.inl ⟨by rfl, ?hy18n19⟩) (by assumption) ?rest18n19
      case hy18n19 =>
        intro w' hSw
        go_simp
        try with_reducible rfl
      try simp only [Act.put, List.getElem_toArray, List.getElem_cons_succ, List.getElem_cons_zero, List.setIfInBounds_toArray, List.set_cons_zero, List.set_cons_succ]
      refine wpAnyH_take (i := 19) (oi := _) (v := ?v19n20) rfl (by kernel_rfl) (by kernel_rfl) (by kernel_rfl) (fun _ _ _ h => h) (Or.inl ⟨by rfl, ?hy19n20⟩) (by assumption) ?rest19n20
      case hy19n20 =>
        intro w' hSw
        go_simp
        try with_reducible rfl
      try simp only [Act.put, List.getElem_toArray, List.getElem_cons_succ, List.getElem_cons_zero, List.setIfInBounds_toArray, List.set_cons_zero, List.set_cons_succ]
      refine wpAnyH_take (i := 20) (oi := _) (v := ?v20n21) rfl (by kernel_rfl) (by kernel_rfl) (by kernel_rfl) (fun _ _ _ h => h) (Or.inl ⟨by rfl, ?hy20n21⟩) (by assumption) ?rest20n21
      case hy20n21 =>
        intro w' hSw
        go_simp
        try with_reducible rfl
      try simp only [Act.put, List.getElem_toArray, List.getElem_cons_succ, List.getElem_cons_zero, List.setIfInBounds_toArray, List.set_cons_zero, List.set_cons_succ]
      refine wpAnyH_take (i := 21) (oi := _) (v := ?v21n22) rfl (by kernel_rfl) (by kernel_rfl) (by kernel_rfl) (fun _ _ _ h => h) (Or.inl ⟨by rfl, ?hy21n22⟩) (by assumption) ?rest21n22
      case hy21n22 =>
        intro w' hSw
        go_simp
        try with_reducible rfl
      try simp only [Act.put, List.getElem_toArray, List.getElem_cons_succ, List.getElem_cons_zero, List.setIfInBounds_toArray, List.set_cons_zero, List.set_cons_succ]
      refine wpAnyH_take (i := 22) (oi := _) (v := ?v22n23) rfl (by kernel_rfl) (by kernel_rfl) (by kernel_rfl) (fun _ _ _ h => h) (Or.inl ⟨by rfl, ?hy22n23⟩) (by assumption) ?rest22n23
      case hy22n23 =>
        intro w' hSw
        have h1 := hSw.c2
        go_simp
        try with_reducible rfl
      try simp only [Act.put, List.getElem_toArray, List.getElem_cons_succ, List.getElem_cons_zero, List.setIfInBounds_toArray, List.set_cons_zero, List.set_cons_succ]
      refine wpAnyH_take (i := 23) (oi := _) (v := ?v23n24) rfl (by kernel_rfl) (by kernel_rfl) (by kernel_rfl) (fun _ _ _ h => h) (Or.inl ⟨by rfl, ?hy23n24⟩) (by assumption) ?rest23n24
      case hy23n24 =>
        intro w' hSw
        have h1 := hSw.k2
        go_simp
        try with_reducible rfl
      try simp only [Act.put, List.getElem_toArray, List.getElem_cons_succ, List.getElem_cons_zero, List.setIfInBounds_toArray, List.set_cons_zero, List.set_cons_succ]
      refine wpAnyH_take (i := 24) (oi := _) (v := ?v24n25) rfl (by kernel_rfl) (by kernel_rfl) (by kernel_rfl) (fun _ _ _ h => h) (Or.inl ⟨by rfl, ?hy24n25⟩) (by assumption) ?rest24n25
      case hy24n25 =>
        intro w' hSw
        go_simp
        try with_reducible rfl
      try simp only [Act.put, List.getElem_toArray, List.getElem_cons_succ, List.getElem_cons_zero, List.setIfInBounds_toArray, List.set_cons_zero, List.set_cons_succ]
      refine wpAnyH_take (i := 25) (oi := _) (v := ?v25n26) rfl (by kernel_rfl) (by kernel_rfl) (by kernel_rfl) (fun _ _ _ h => h) (Or.inl ⟨by rfl, ?hy25n26⟩) (by assumption) ?rest25n26
      case hy25n26 =>
        intro w' hSw
        go_simp
        try with_reducible rfl
      try simp only [Act.put, List.getElem_toArray, List.getElem_cons_succ, List.getElem_cons_zero, List.setIfInBounds_toArray, List.set_cons_zero, List.set_cons_succ]
      refine wpAnyH_done (by kernel_rfl) ?_ _
      clear hHeld
      go_wp2_with fail
      go_roundw
      case rel => exact ⟨k + 1, by omega, by go_num, HBD⟩
      case measure => simp [intOf]; omega
    · obtain rfl : k = n := by omega
      have hd : decide ((k : Int) < (k : Int)) = false := by simp
      go_wp2_with fail
      go_ret
      exact ⟨rfl, hbe.out⟩
end Go.Proofs.YtdjknefbaclleaaGreatDoor

namespace Go.Proofs.YtdjknefbaclleaaGreatDoor
open Go.RowKit

set_option maxRecDepth 100000 in
set_option maxHeartbeats 400000 in
theorem duplicate_big (sp : Option Addr) (n cap : Nat) (b : List Int) (w : World) (hs : Src w w.heap.size sp n cap b) (hn : n ≤ 1099511627776) :
    Calls Tryz.prog 38 #[.slice sp n cap] w fun e w' => ∃ g, e = .returned (.slice (some ⟨g, 0, none⟩) n n) ∧ w'.ownsRow w.heap.size 5 1 (.slice (some ⟨g, 0, none⟩) n n) n (b.map (Value.int .u8)) ∧ Below w.heap.size w w' := by
  obtain ⟨i0, hi0, hz0, hz1, hz2⟩ := info_parts Tryz.info5a
  have HS := Lib.hid hs; clear hs
  go_enter Tryz.func38, Tryz.ntmps38
  go_wp2_with (first
    | (refine wpList_make_full w rfl (.tmp 5) (.tmp 5) 42 rfl w.heap.size 5 i0 (.int .u8 0) 1 Tryz.underlying42 hi0 hz0 hz1 .i64 .i64 (n : Int) (n : Int) n rfl rfl rfl rfl (by rw [hz2]; omega) (by unfold maxLen; omega) (Nat.le_refl _) ?_
       intro w1 hown1 hgr1
       have hb1 : Below w.heap.size w w1 := (Below.refl _ _).grown hgr1 (Nat.le_refl _) (by intro k hk; cases hk)
       obtain ⟨cur, hg, hcs⟩ : ∃ cur : List Value, w1.heap[w.heap.size]? = some (.cells cur.toArray 5 (0, 0)) ∧ cur.length = n := by
         obtain ⟨_, ⟨h1, _⟩ | ⟨g', cap', cur, h1, _, hg, hle, _, hsz, htk⟩⟩ := hown1
         · cases h1
         · injection h1 with h1 h2 h3
           injection h1 with h1; injection h1 with h1
           subst h1; subst h3
           exact ⟨cur.toList, by simpa using hg, by simpa using hsz⟩
       have HG := Lib.hid hg; have HB1 := Lib.hid hb1; have HSR := Lib.hid (HS.out.below hb1 (Nat.le_refl _))
       clear hown1 hgr1 hg hb1)
    | (refine wpList_copy_splice rfl (.tmp 7) (.tmp 8) 42 42 rfl 5 Tryz.underlying42 (by rw [hi0]; exact congrArg some hz1) _ _ n n n cap rfl rfl w.heap.size 0 cur 5 HG.out (b.map (Value.int .u8)) (by rw [List.length_map, HS.out.len]; exact (Nat.min_self n).symm) (fun hp => ⟨rfl, HSR.out.pos hp⟩) (by rw [List.length_map, HS.out.len, hcs]; omega) (one_map _ _) w.heap.size w HB1.out (Nat.le_refl _) ?_; intro w2 hg2 hb2; have HG2 := hg2; have HB2 := Lib.hid hb2; clear hg2 hb2))
  go_ret
  have hsp : splice cur 0 (b.map (Value.int .u8)) = b.map (Value.int .u8) := by
    unfold splice
    rw [List.take_zero, List.nil_append, List.drop_eq_nil_of_le (by rw [List.length_map, HS.out.len, hcs]; omega), List.append_nil]
  have hg3 := HG2.out
  rw [hsp] at hg3
  refine ⟨w.heap.size, rfl, ⟨by rw [List.length_map, HS.out.len, Nat.mul_one], .inr ⟨w.heap.size, n, _, rfl, Nat.le_refl _, hg3, Nat.le_refl _, by unfold maxLen; omega, ?_, ?_⟩⟩, HB2.out⟩
  · simp [HS.out.len]
  · simp only [Nat.mul_one]
    exact List.take_of_length_le (by rw [List.length_map, HS.out.len]; exact Nat.le_refl _)
set_option maxRecDepth 100000 in
set_option maxHeartbeats 1000000 in
theorem get_big (sp : Option Addr) (n cap : Nat) (l : List Bl) (d : List Int) (w : World) (hl : BlsIn w w.heap.size sp n cap l) (hn : n ≤ 1000000) (hb : ∀ x ∈ l, x.n ≤ 1099511627776) (hd : D32 d) :
    Calls Tryz.prog 28 #[.slice sp n cap, .agg (dv d)] w fun e w' =>
      ((e = .returned (.tuple #[.slice none 0 0, .bool false]) ∧ ∀ x ∈ l, x.d ≠ d) ∨ ∃ (k : Nat) (x : Bl) (g : Nat), e = .returned (.tuple #[.slice (some ⟨g, 0, none⟩) x.n x.n, .bool true]) ∧ l[k]? = some x ∧ x.d = d ∧ (∀ y ∈ l.take k, y.d ≠ d) ∧
        w'.ownsRow w.heap.size 5 1 (.slice (some ⟨g, 0, none⟩) x.n x.n) x.n (x.b.map (Value.int .u8))) ∧ Below w.heap.size w w' := by
  have HB := Lib.hid ((Below.refl w.heap.size w).alloc (Nat.le_refl _) (.cells (dv d) 29))
  have hs : (w.alloc (.cells (dv d) 29)).heap.size = w.heap.size + 1 := by simp
  have hr : (w.alloc (.cells (dv d) 29)).rangeAt w.heap.size 0 (d.map (Value.int .u8)) := range_row (pre := []) (post := []) (heap_alloc_new w _) (by simp) rfl
  have HR := Lib.hid hr; have HI := Lib.hid (info_d hd)
  have HF := Lib.hid (find_any sp n cap l d (w.alloc (.cells (dv d) 29)) ((hl.below HB.out (Nat.le_refl _)).below (Below.refl (w.alloc (.cells (dv d) 29)).heap.size _) (by omega)) hn hd)
  have HL := Lib.hid hl; have HBD := Lib.hid hb
  clear hl hs hr hd hb
  go_enter Tryz.func28, Tryz.ntmps28
  go_wp2_with (refine wpList_load_mid rfl 29 _ rfl w.heap.size 0 rfl _ _ HR.out Tryz.underlying29 rfl HI.out ?_)
  refine HF.out.mono ?_
  rintro e w1 ⟨hcase, hb1⟩
  have HB1 := Lib.hid (HB.out.trans (hb1.mono HB.out.size)); clear hb1
  rcases hcase with ⟨rfl, hno⟩ | ⟨k, x, rfl, hx, hxd, hbef⟩
  · have HNO := Lib.hid hno; clear hno
    go_wp2_with fail
    go_ret2
    exact ⟨.inl ⟨rfl, HNO.out⟩, HB1.out⟩
  · have hxm := List.mem_of_getElem? hx
    have HDU := Lib.hid (duplicate_big x.sp x.n x.cap x.b w1 (((HL.out.dat x hxm).up HB1.out (Nat.le_refl _)).src) (HBD.out x hxm))
    have HX := Lib.hid hx; have HXD := Lib.hid hxd; have HBF := Lib.hid hbef
    clear hx hxd hbef hxm
    go_wp2_with fail
    refine HDU.out.mono ?_
    rintro e w2 ⟨g, rfl, ho, hb2⟩
    have HO := Lib.hid (own_lessG ho HB1.out.size); have HB2 := Lib.hid (HB1.out.trans (hb2.mono HB1.out.size)); clear ho hb2
    go_wp2_with fail
    go_ret2
    exact ⟨.inr ⟨k, x, g, rfl, HX.out, HXD.out, HBF.out, HO.out⟩, HB2.out⟩
end Go.Proofs.YtdjknefbaclleaaGreatDoor
