/-
  Stores: the walk of Root (lists of at most 1000000 blobs).
-/
import Derived.Test.YtfehgkpmjnmpeaaDoorStsC
namespace Go.Proofs.YtfehgkpmjnmpeaaDoor
open Go.RowKit

set_option maxRecDepth 100000 in
set_option maxHeartbeats 1000000 in
theorem root_any (sp : Option Addr) (n cap : Nat) (l : List Bl) (w : World) (hl : BlsIn w w.heap.size sp n cap l) (hn : n ≤ 1000000) (hk : KayIn w) (hk0 : 0 < w.heap.size) :
    Calls Tryd.prog 15 #[.slice sp n cap] w (TreeRes w (l.map (·.d))) := by
  have HL := Lib.hid hl; have HKA := Lib.hid hk; have HK0 := Lib.hid hk0
  have HN := Lib.hid (NewZ.new w)
  obtain ⟨i0, hi0, hz0, hz1, hz2⟩ := info_parts infoD3
  have HI0 := Lib.hid hi0; have HZ0 := Lib.hid hz0; have HZ1 := Lib.hid hz1; have HZ22 := Lib.hid hz2
  clear hl hk hk0 hi0 hz0 hz1 hz2
  go_enter Tryd.func15, Tryd.ntmps15
  go_wp2_with (generalize hw0 : World.alloc w _ = w0; have hn0 : NewZ w w0 := (by rw [← hw0]; exact HN.out); have HS0 := Lib.hid (show w.heap.size + 1 ≤ w0.heap.size by rw [hn0.s]; exact Nat.le_refl _); have HB0 := Lib.hid hn0.b; have HZ := Lib.hid hn0.z; clear hw0 HN hn0; refine wpList_make_own w0 rfl _ _ 25 rfl (w.heap.size + 1) 32 i0 _ 32 Tryd.underlying25 HI0.out HZ0.out HZ1.out _ _ _ n rfl rfl rfl (by rw [HZ22.out]; omega) (by unfold maxLen; omega) HS0.out ?_; intro w3 h1 h2; have HO3 := Lib.hid h1; have HG3 := Lib.hid h2; clear h1 h2)
  have HB3 := Lib.hid ((Below.refl (w.heap.size + 1) w0).grown HG3.out HS0.out (fun k hk => by cases hk))
  go_loopw [3, 11] (fun v i wr => ∃ (k c : Nat) (g : Option Addr), v = .slice g k c ∧ i = .int .i64 k ∧ k ≤ n ∧ Hid (OwnDg wr (w.heap.size + 1) (.slice g k c) ((l.take k).map (·.d)) ∧ Below (w.heap.size + 1) w0 wr)) (fun _ i _ => n - (intOf i).toNat)
  case atStart => exact ⟨0, n, some ⟨w0.heap.size, 0, none⟩, rfl, rfl, Nat.zero_le _, ⟨by exact HO3.out, fun x hx => by simp at hx⟩, HB3.out⟩
  case round =>
    clear HO3 HG3 HB3
    obtain ⟨k, c, gv, rfl, rfl, hk, H⟩ := hrel
    have HO := Lib.hid H.out.1; have HBE := Lib.hid H.out.2
    clear H
    have HBW := Lib.hid (HB0.out.trans (HBE.out.mono (Nat.le_succ _)))
    have HSZ := Lib.hid (Nat.le_trans HS0.out HBE.out.size)
    by_cases hlt : k < n
    · have hd : decide ((k : Int) < (n : Int)) = true := by simp; omega
      obtain ⟨b, off, rfl, hbB, hcap, hr⟩ := HL.out.cells (by omega)
      obtain ⟨x, hx⟩ : ∃ x, l[k]? = some x := ⟨l[k]'(by have := HL.out.len; omega), List.getElem?_eq_getElem _⟩
      have HXM := Lib.hid (List.mem_of_getElem? hx)
      have HXR := Lib.hid (range_belowG (hr k x hx) HBW.out hbB)
      have HOX := Lib.hid (HL.out.ok x HXM.out)
      have HIB := Lib.hid (info_b HOX.out)
      have HI2 : Hid ((Tryd.prog.info? 52).map (·.size) = some (blL x).toArray.size) := by show _ = _; rw [List.size_toArray]; exact HIB.out
      have HS : Hid (33 = (blL x).toArray.size) := by show _ = _; rw [List.size_toArray, blL_length HOX.out]
      have HID := Lib.hid (info_d HOX.out)
      have p1 : (0 : Int) ≤ (k : Int) := by omega
      have p2 : (k : Int) < (n : Int) := by omega
      have HBLW := Lib.hid (Nat.lt_of_lt_of_le hbB HBW.out.size)
      have HT := Lib.hid (ds_take hx)
      have HLK := Lib.hid (show k = ((l.take k).map (·.d)).length by rw [List.length_map, List.length_take, HL.out.len]; omega)
      clear hr hx
      go_wp2_with (first
        | (refine wpList_load_mid rfl 52 _ rfl b (off + k * 33) rfl _ _ HXR.out Tryd.underlying52 rfl HIB.out ?_)
        | (refine wpList_store_row rfl 52 _ _ rfl wr.heap.size _ rfl rfl 52 _ (heap_alloc_new wr _) (by simpa using HI2.out) (by simpa using HS.out) (Array.all_eq_true_iff_forall_mem.2 (by simpa using blL_one x)) ?_; rw [setRow_new]; generalize hw2 : World.alloc wr _ = w2; have he2 : BlB w2 wr.heap.size x := (by rw [← hw2]; exact heap_alloc_new _ _); have hb2 : Below wr.heap.size wr w2 := (by rw [← hw2]; exact (Below.refl _ _).alloc (Nat.le_refl _) _); have hz2 : wr.heap.size < w2.heap.size := (by rw [← hw2]; simp); have HE2 := Lib.hid he2; have HED2 := Lib.hid he2.d; have HW2 := Lib.hid hb2; have HZ2 := Lib.hid hz2; have HO2 := Lib.hid (HO.out.below hb2); clear hw2 he2 hb2 hz2)
        | (refine wpList_load_mid rfl 32 _ rfl wr.heap.size 0 rfl _ _ HED2.out Tryd.underlying32 rfl HID.out ?_)
        | (refine wpList_slice_eqG rfl 25 1 [(0, .tmp 17)] rfl [(0, .agg (dv x.d))] rfl _ _ (sliceDg _ x.d HOX.out) ?_; generalize hw7 : World.alloc w2 _ = w7; have hr7 : w7.rangeAt w2.heap.size 0 (x.d.map (Value.int .u8)) := (by rw [← hw7]; exact range_row (pre := []) (post := []) (heap_alloc_new w2 _) (by simp [dv]) rfl); have hb7 : Below w2.heap.size w2 w7 := (by rw [← hw7]; exact (Below.refl _ _).alloc (Nat.le_refl _) _); have HR7 := Lib.hid hr7; have HO7 := Lib.hid (HO2.out.below hb7); have HB7 := Lib.hid hb7; clear hw7 hr7 hb7)
        | (at_builtin; refine wpList_append_dg rfl (.tmp 15) (.tmp 18) rfl (w.heap.size + 1) _ _ k HLK.out rfl HO7.out w2.heap.size x.d rfl HR7.out HOX.out (by omega) (Nat.le_trans HSZ.out (Nat.le_trans HW2.out.size HB7.out.size)) ?_; intro g' c' w8 HO8 HB8 HG8))
      have HB9 := Lib.hid (HBE.out.trans ((HW2.out.mono HSZ.out).trans ((HB7.out.mono (Nat.le_trans HSZ.out HW2.out.size)).trans HB8.out)))
      go_roundw
      case rel => exact ⟨k + 1, c', g', rfl, by go_num, by omega, by rw [HT.out]; exact HO8.out, HB9.out⟩
      case measure => simp [intOf]; omega
    · obtain rfl : k = n := by omega
      have hd : decide ((k : Int) < (k : Int)) = false := by simp
      have HTK := Lib.hid (show l.take k = l from List.take_of_length_le (by rw [HL.out.len]; exact Nat.le_refl _))
      have HO1 := Lib.hid (show OwnDg wr (w.heap.size + 1) (.slice gv k c) (l.map (·.d)) by have := HO.out; rwa [HTK.out] at this)
      have HDG := Lib.hid (HO1.out.digs (by rw [List.length_map, HL.out.len]))
      have HZ1 := Lib.hid (HZ.out.below HBE.out (Nat.lt_succ_self _))
      have HDT := Lib.hid (d32_tree (l.map (·.d)) HDG.out.digs)
      have HCT := Lib.hid (Tree_any k gv k c (l.map (·.d)) wr (Nat.le_refl _) hn HDG.out (HKA.out.below HBW.out HK0.out) (Nat.lt_of_lt_of_le HK0.out HBW.out.size))
      clear hlt
      go_wp2_with fail
      refine HCT.out.mono ?_
      rintro e w2 ⟨rfl, hb2⟩
      have H2 := Lib.hid (HZ1.out.below hb2 (Nat.lt_of_lt_of_le (Nat.lt_succ_self _) HSZ.out))
      have HB2 := Lib.hid (HBW.out.trans (hb2.mono HBW.out.size)); clear hb2
      have HID := Lib.hid (info_d HDT.out)
      go_wp2_with (refine wpList_store_row rfl 32 _ _ rfl w.heap.size _ rfl rfl 32 _ H2.out (by simpa [dv] using HID.out) (by simp [dv, HDT.out.1]) (oneCell_map _ _) ?_)
      exact bodyPost_ret (results_cell_row (P := Tryd.prog) rfl _ _ w.heap.size 32 _ (0, 0) _ rfl (setRow_heap _ _ _ _ _ _ H2.out) Tryd.underlying32 rfl (by simpa [dv] using HID.out)) rfl ⟨rfl, below_setRow HB2.out (Nat.le_refl _) _⟩
end Go.Proofs.YtfehgkpmjnmpeaaDoor
