/-
  The walks of kept, creations and inverse (conditions: digests of 32 bytes, at most 1000000 elements).
-/
import Derived.Test.YtkookkhlgllneaaDoorSnD
namespace Go.Proofs.YtkookkhlgllneaaDoor
open Go.RowKit

set_option maxRecDepth 100000 in
set_option maxHeartbeats 400000 in
theorem kept_any (p : ByteArray) (d : List Int) (w : World) (hd : D32 d) :
    Calls Tryd.prog 140 #[.string p, .agg (d.map (Value.int .u8)).toArray] w fun e w' => e = .returned (.agg (cgL (kp p d)).toArray) ∧ Below w.heap.size w w' := by
  have hr : ∀ o, ((w.alloc (.cells (d.map (Value.int .u8)).toArray 28)).alloc o).rangeAt w.heap.size 0 (d.map (Value.int .u8)) := fun o =>
    range_row (pre := []) (post := []) (t := 28) (fz := (0, 0)) (cs := d.map (Value.int .u8)) ((Below.heap_alloc _ _ _ (by simp)).trans (heap_alloc_new w _)) (by simp) rfl
  have hg : ∀ o, ((w.alloc (.cells (d.map (Value.int .u8)).toArray 28)).alloc o).heap[w.heap.size + 1]? = some o := fun o => by
    have := heap_alloc_new (w.alloc (.cells (d.map (Value.int .u8)).toArray 28)) o; rwa [World.size_alloc] at this
  have hb : ∀ o, Below w.heap.size w ((w.alloc (.cells (d.map (Value.int .u8)).toArray 28)).alloc o) := fun o => ((Below.refl _ w).alloc (Nat.le_refl _) _).alloc (by simp) _
  have HR := Lib.hid hr; have HG := Lib.hid hg; have HB := Lib.hid hb; have HI := Lib.hid (info_d hd)
  have hok : OkC (⟨p, d, d⟩ : Cg) := ⟨hd, hd⟩
  have HC := Lib.hid (info_c hok)
  have HS : Hid (65 = (cgL ⟨p, d, d⟩).toArray.size) := by show _ = _; rw [List.size_toArray, cgL_length hok]
  have HD := Lib.hid hd
  have HC2 : Hid ((Tryd.prog.info? 81).map (·.size) = some (cgL ⟨p, d, d⟩).toArray.size) := by show _ = _; rw [List.size_toArray]; exact HC.out
  clear hr hg hb hd hok
  go_enter Tryd.func140, Tryd.ntmps140
  go_wp2_with (first
    | (refine wpList_load_mid rfl 28 _ rfl w.heap.size 0 rfl _ _ (HR.out _) Tryd.underlying28 rfl HI.out ?_)
    | (refine wpList_build_eq rfl 81 [(0, .tmp 5), (1, .tmp 6), (2, .tmp 7)] rfl [(0, .string p), (1, .agg (d.map (Value.int .u8)).toArray), (2, .agg (d.map (Value.int .u8)).toArray)] rfl _ (buildC p d d HD.out.1 HD.out.1 _) ?_)
    | (refine wpList_store_row rfl 81 _ _ rfl (w.heap.size + 1) _ rfl rfl 81 Tryd.zeroCells81 (HG.out _) HC2.out ((rfl : (Tryd.zeroCells81).size = 65).trans HS.out) (cgA_one ⟨p, d, d⟩) ?_; have hB2 := below_setRow (HB.out (.cells Tryd.zeroCells81 81)) (Nat.le_succ w.heap.size) (cgL ⟨p, d, d⟩).toArray; have hR2 := setRow_heap _ _ _ (cgL ⟨p, d, d⟩).toArray _ _ (HG.out (.cells Tryd.zeroCells81 81)); generalize World.setRow _ _ _ = w2 at hB2 hR2 ⊢; have HB2 := Lib.hid hB2; have HR2 := Lib.hid hR2; clear hB2 hR2))
  exact bodyPost_ret (results_cell_row (P := Tryd.prog) rfl _ _ (w.heap.size + 1) 81 _ (0, 0) _ rfl HR2.out Tryd.underlying81 rfl HC2.out) rfl ⟨rfl, HB2.out⟩
set_option maxRecDepth 100000 in
set_option maxHeartbeats 1000000 in
theorem creations_any (sp : Option Addr) (n cap : Nat) (l : List En) (w : World) (hl : EnsIn w w.heap.size sp n cap l) (hn : n ≤ 1000000) :
    Calls Tryd.prog 64 #[.slice sp n cap] w fun e w' => ∃ sp' cap', e = .returned (.slice sp' n cap') ∧ OwnC w' w.heap.size (.slice sp' n cap') (cre l) ∧ Below w.heap.size w w' := by
  have HL := Lib.hid hl
  clear hl
  obtain ⟨i0, hi0, hz0, hz1, hz2⟩ := info_parts infoC3
  go_enter Tryd.func64, Tryd.ntmps64
  go_wp2_with (refine wpList_make_own w rfl _ _ 40 rfl w.heap.size 81 i0 _ 65 Tryd.underlying40 hi0 hz0 hz1 .i64 .i64 (n : Int) n rfl rfl rfl (by rw [hz2]; omega) (by unfold maxLen; omega) (Nat.le_refl _) ?_; intro w1 hown1 hg1)
  have HB1 := Lib.hid ((Below.refl w.heap.size w).grown hg1 (Nat.le_refl _) (fun k e => by cases e))
  have HO1 := Lib.hid hown1
  clear hg1 hown1 hi0 hz0 hz1 hz2
  go_loopw [3, 11] (fun v i wr => ∃ (k : Nat) (sp' : Option Addr) (cap' : Nat), k ≤ n ∧ i = .int .i64 k ∧ v = .slice sp' k cap' ∧ Hid (OwnC wr w.heap.size (.slice sp' k cap') (cre (l.take k))) ∧ Hid (Below w.heap.size w wr)) (fun _ i _ => n - (intOf i).toNat)
  case atStart => exact ⟨0, _, _, Nat.zero_le _, rfl, rfl, ⟨HO1.out, by simp [cre]⟩, HB1.out⟩
  case round =>
    clear HO1 HB1
    obtain ⟨k, sp', cap', hk, rfl, rfl, hown, hbe⟩ := hrel
    have hbs := hbe.out.size
    by_cases hlt : k < n
    · have hd : decide ((k : Int) < (n : Int)) = true := by simp; omega
      obtain ⟨b, off, rfl, hbB, hcap, hr⟩ := HL.out.cells (by omega)
      have hkl : k < l.length := by rw [HL.out.len]; exact hlt
      obtain ⟨x, hx⟩ : ∃ x, l[k]? = some x := ⟨l[k], List.getElem?_eq_getElem hkl⟩
      have hok := HL.out.ok x (List.mem_of_getElem? hx)
      have HR := Lib.hid (range_belowS (hr k x hx) hbe.out hbB)
      have HI := Lib.hid (info_e hok); have HOK := Lib.hid hok
      have HS : Hid (33 = (enL x).toArray.size) := by show _ = _; rw [List.size_toArray, enL_length hok]
      have HT : Hid (cre (l.take (k + 1)) = cre (l.take k) ++ [⟨x.p, zed, x.d⟩]) := by show _ = _; rw [List.take_add_one, hx]; simp [cre]
      have HKL : Hid (k = (cre (l.take k)).length) := by show _ = _; simp [cre]; omega
      have p1 : (0 : Int) ≤ (k : Int) := by omega
      have p2 : (k : Int) < (n : Int) := by omega
      clear hr hx hkl hok
      go_wp2_with (first
        | (refine wpList_load_mid rfl 70 _ rfl b (off + k * 33) rfl _ _ HR.out Tryd.underlying70 rfl HI.out ?_)
        | (refine wpList_store_row rfl 70 _ _ rfl wr.heap.size _ rfl rfl 70 _ (heap_alloc_new wr _) (by simpa using HI.out) (by simpa using HS.out) (Array.all_eq_true_iff_forall_mem.2 (by simpa using enL_one x)) ?_; rw [setRow_new]; generalize hw2 : World.alloc wr _ = w2; have he2 : EnB w2 wr.heap.size x := (by rw [← hw2]; exact heap_alloc_new _ _); have hb2 : Below wr.heap.size wr w2 := (by rw [← hw2]; exact (Below.refl _ _).alloc (Nat.le_refl _) _); have hz2 : wr.heap.size < w2.heap.size := (by rw [← hw2]; simp); have hp2 := he2.p; have HE2 := Lib.hid he2; have HW2 := Lib.hid hb2; have HO2 := Lib.hid (hown.out.below hb2); clear hw2 he2 hb2)
        | (refine wpList_load_mid rfl 28 _ rfl wr.heap.size 1 rfl _ _ HE2.out.d Tryd.underlying28 rfl (info_d HOK.out) ?_)
        | (refine wpList_build_eq rfl 81 [(0, .tmp 17), (2, .tmp 19)] rfl [(0, .string x.p), (2, .agg (x.d.map (Value.int .u8)).toArray)] rfl _ (buildC2 x.p x.d HOK.out.1 _) ?_)
        | (refine wpList_slice_eq rfl 40 1 [(0, .tmp 20)] rfl [(0, .agg (cgL ⟨x.p, zed, x.d⟩).toArray)] rfl _ _ (sliceC _ ⟨x.p, zed, x.d⟩ ⟨D32.zed, HOK.out⟩) ?_; generalize hw3 : World.alloc w2 _ = w3; have he3 : CgB w3 w2.heap.size ⟨x.p, zed, x.d⟩ := (by rw [← hw3]; exact heap_alloc_new _ _); have hb3 : Below w2.heap.size w2 w3 := (by rw [← hw3]; exact (Below.refl _ _).alloc (Nat.le_refl _) _); have hz3 : w2.heap.size < w3.heap.size := (by rw [← hw3]; simp); have HE3 := Lib.hid he3; have HW3 := Lib.hid (HW2.out.trans (hb3.mono (by omega))); have HO3 := Lib.hid (HO2.out.below hb3); clear hw3 he3 hb3)
        | (at_builtin; refine wpList_append_cg rfl (.tmp 15) (.tmp 21) rfl w.heap.size _ _ k HKL.out rfl HO3.out w2.heap.size ⟨x.p, zed, x.d⟩ rfl HE3.out ⟨D32.zed, HOK.out⟩ (by omega) (by omega) ?_; intro sp4 cap4 w4 HO4 HB4 HG4))
      have HB5 := Lib.hid ((hbe.out.trans (HW3.out.mono hbs)).trans HB4.out)
      go_roundw
      case rel => exact ⟨k + 1, sp4, cap4, hlt, by go_num, rfl, by show OwnC _ _ _ _; rw [HT.out]; exact HO4.out, HB5.out⟩
      case measure => simp [intOf]; omega
    · obtain rfl : k = n := by omega
      have hd : decide ((k : Int) < (k : Int)) = false := by simp
      have HT : Hid (cre (l.take k) = cre l) := by show _ = _; rw [List.take_of_length_le (by rw [HL.out.len]; exact Nat.le_refl _)]
      go_wp2_with fail
      go_ret
      exact ⟨sp', cap', rfl, by rw [← HT.out]; exact hown.out, hbe.out⟩
set_option maxRecDepth 100000 in
set_option maxHeartbeats 1000000 in
theorem inverse_any (sp : Option Addr) (n cap : Nat) (l : List Cg) (w : World) (hl : CgsIn w w.heap.size sp n cap l) (hn : n ≤ 1000000) :
    Calls Tryd.prog 63 #[.slice sp n cap] w fun e w' => ∃ sp' cap', e = .returned (.slice sp' n cap') ∧ OwnC w' w.heap.size (.slice sp' n cap') (inv l) ∧ Below w.heap.size w w' := by
  have HL := Lib.hid hl
  clear hl
  obtain ⟨i0, hi0, hz0, hz1, hz2⟩ := info_parts infoC3
  go_enter Tryd.func63, Tryd.ntmps63
  go_wp2_with (refine wpList_make_own w rfl _ _ 40 rfl w.heap.size 81 i0 _ 65 Tryd.underlying40 hi0 hz0 hz1 .i64 .i64 (n : Int) n rfl rfl rfl (by rw [hz2]; omega) (by unfold maxLen; omega) (Nat.le_refl _) ?_; intro w1 hown1 hg1)
  have HB1 := Lib.hid ((Below.refl w.heap.size w).grown hg1 (Nat.le_refl _) (fun k e => by cases e))
  have HO1 := Lib.hid hown1
  clear hg1 hown1 hi0 hz0 hz1 hz2
  go_loopw [3, 11] (fun v i wr => ∃ (k : Nat) (sp' : Option Addr) (cap' : Nat), k ≤ n ∧ i = .int .i64 k ∧ v = .slice sp' k cap' ∧ Hid (OwnC wr w.heap.size (.slice sp' k cap') (inv (l.take k))) ∧ Hid (Below w.heap.size w wr)) (fun _ i _ => n - (intOf i).toNat)
  case atStart => exact ⟨0, _, _, Nat.zero_le _, rfl, rfl, ⟨HO1.out, by simp [inv]⟩, HB1.out⟩
  case round =>
    clear HO1 HB1
    obtain ⟨k, sp', cap', hk, rfl, rfl, hown, hbe⟩ := hrel
    have hbs := hbe.out.size
    by_cases hlt : k < n
    · have hd : decide ((k : Int) < (n : Int)) = true := by simp; omega
      obtain ⟨b, off, rfl, hbB, hcap, hr⟩ := HL.out.cells (by omega)
      have hkl : k < l.length := by rw [HL.out.len]; exact hlt
      obtain ⟨x, hx⟩ : ∃ x, l[k]? = some x := ⟨l[k], List.getElem?_eq_getElem hkl⟩
      have hok := HL.out.ok x (List.mem_of_getElem? hx)
      have HR := Lib.hid (range_belowS (hr k x hx) hbe.out hbB)
      have HI := Lib.hid (info_c hok); have HOK := Lib.hid hok
      have HS : Hid (65 = (cgL x).toArray.size) := by show _ = _; rw [List.size_toArray, cgL_length hok]
      have HT : Hid (inv (l.take (k + 1)) = inv (l.take k) ++ [⟨x.p, x.n, x.o⟩]) := by show _ = _; rw [List.take_add_one, hx]; simp [inv]
      have HKL : Hid (k = (inv (l.take k)).length) := by show _ = _; simp [inv]; omega
      have p1 : (0 : Int) ≤ (k : Int) := by omega
      have p2 : (k : Int) < (n : Int) := by omega
      clear hr hx hkl hok
      go_wp2_with (first
        | (refine wpList_load_mid rfl 81 _ rfl b (off + k * 65) rfl _ _ HR.out Tryd.underlying81 rfl HI.out ?_)
        | (refine wpList_store_row rfl 81 _ _ rfl wr.heap.size _ rfl rfl 81 _ (heap_alloc_new wr _) (by simpa using HI.out) (by simpa using HS.out) (Array.all_eq_true_iff_forall_mem.2 (by simpa using cgL_one x)) ?_; rw [setRow_new]; generalize hw2 : World.alloc wr _ = w2; have he2 : CgB w2 wr.heap.size x := (by rw [← hw2]; exact heap_alloc_new _ _); have hb2 : Below wr.heap.size wr w2 := (by rw [← hw2]; exact (Below.refl _ _).alloc (Nat.le_refl _) _); have hz2 : wr.heap.size < w2.heap.size := (by rw [← hw2]; simp); have hp2 := he2.p; have HE2 := Lib.hid he2; have HW2 := Lib.hid hb2; have HO2 := Lib.hid (hown.out.below hb2); clear hw2 he2 hb2)
        | (refine wpList_load_mid rfl 28 _ rfl wr.heap.size 33 rfl _ _ (HE2.out.n HOK.out) Tryd.underlying28 rfl (info_d HOK.out.2) ?_)
        | (refine wpList_load_mid rfl 28 _ rfl wr.heap.size 1 rfl _ _ HE2.out.o Tryd.underlying28 rfl (info_d HOK.out.1) ?_)
        | (refine wpList_build_eq rfl 81 [(0, .tmp 17), (1, .tmp 19), (2, .tmp 21)] rfl [(0, .string x.p), (1, .agg (x.n.map (Value.int .u8)).toArray), (2, .agg (x.o.map (Value.int .u8)).toArray)] rfl _ (buildC x.p x.n x.o HOK.out.2.1 HOK.out.1.1 _) ?_)
        | (refine wpList_slice_eq rfl 40 1 [(0, .tmp 22)] rfl [(0, .agg (cgL ⟨x.p, x.n, x.o⟩).toArray)] rfl _ _ (sliceC _ ⟨x.p, x.n, x.o⟩ ⟨HOK.out.2, HOK.out.1⟩) ?_; generalize hw3 : World.alloc w2 _ = w3; have he3 : CgB w3 w2.heap.size ⟨x.p, x.n, x.o⟩ := (by rw [← hw3]; exact heap_alloc_new _ _); have hb3 : Below w2.heap.size w2 w3 := (by rw [← hw3]; exact (Below.refl _ _).alloc (Nat.le_refl _) _); have hz3 : w2.heap.size < w3.heap.size := (by rw [← hw3]; simp); have HE3 := Lib.hid he3; have HW3 := Lib.hid (HW2.out.trans (hb3.mono (by omega))); have HO3 := Lib.hid (HO2.out.below hb3); clear hw3 he3 hb3)
        | (at_builtin; refine wpList_append_cg rfl (.tmp 15) (.tmp 23) rfl w.heap.size _ _ k HKL.out rfl HO3.out w2.heap.size ⟨x.p, x.n, x.o⟩ rfl HE3.out ⟨HOK.out.2, HOK.out.1⟩ (by omega) (by omega) ?_; intro sp4 cap4 w4 HO4 HB4 HG4))
      have HB5 := Lib.hid ((hbe.out.trans (HW3.out.mono hbs)).trans HB4.out)
      go_roundw
      case rel => exact ⟨k + 1, sp4, cap4, hlt, by go_num, rfl, by show OwnC _ _ _ _; rw [HT.out]; exact HO4.out, HB5.out⟩
      case measure => simp [intOf]; omega
    · obtain rfl : k = n := by omega
      have hd : decide ((k : Int) < (k : Int)) = false := by simp
      have HT : Hid (inv (l.take k) = inv l) := by show _ = _; rw [List.take_of_length_le (by rw [HL.out.len]; exact Nat.le_refl _)]
      go_wp2_with fail
      go_ret
      exact ⟨sp', cap', rfl, by rw [← HT.out]; exact hown.out, hbe.out⟩
end Go.Proofs.YtkookkhlgllneaaDoor
