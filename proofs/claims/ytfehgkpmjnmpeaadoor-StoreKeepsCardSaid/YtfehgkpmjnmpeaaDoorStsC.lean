/-
  Stores: the walks of Root and Audit, the program's and the reference's (lists of at most 1000000 blobs, data of at most 2^40 bytes).
-/
import Derived.Test.YtfehgkpmjnmpeaaDoorStsA
import Derived.Test.YtfehgkpmjnmpeaaDoorRefE
namespace Go.Proofs.YtfehgkpmjnmpeaaDoor
open Go.RowKit

theorem ds_take {l : List Bl} {k : Nat} {x : Bl} (h : l[k]? = some x) : (l.take (k + 1)).map (·.d) = (l.take k).map (·.d) ++ [x.d] := by rw [List.take_add_one, h]; simp
theorem d32_tree (l : List (List Int)) (h : Digs l) : D32 (tree l) := ⟨(tree_digs l h).1, (tree_digs l h).2⟩
set_option maxRecDepth 100000 in
set_option maxHeartbeats 1000000 in
theorem rroot_any (sp : Option Addr) (n cap : Nat) (l : List Bl) (w : World) (hl : BlsIn w w.heap.size sp n cap l) (hn : n ≤ 1000000) :
    Calls Tryd.prog 16 #[.slice sp n cap] w (TreeRes w (l.map (·.d))) := by
  have HL := Lib.hid hl
  have HN := Lib.hid (NewZ.new w)
  clear hl
  go_enter Tryd.func16, Tryd.ntmps16
  go_wp2_with fail
  generalize hw0 : World.alloc w _ = w0
  have hn0 : NewZ w w0 := by rw [← hw0]; exact HN.out
  have HS0 := Lib.hid (show w.heap.size + 1 ≤ w0.heap.size by rw [hn0.s]; exact Nat.le_refl _); have HB0 := Lib.hid hn0.b; have HZ := Lib.hid hn0.z
  clear hw0 HN hn0
  go_loopw [3, 4] (fun v i wr => ∃ (k c : Nat) (g : Option Addr), v = .slice g k c ∧ i = .int .i64 k ∧ k ≤ n ∧ Hid (OwnDg wr (w.heap.size + 1) (.slice g k c) ((l.take k).map (·.d)) ∧ Below (w.heap.size + 1) w0 wr)) (fun _ i _ => n - (intOf i).toNat)
  case atStart => exact ⟨0, 0, none, rfl, rfl, Nat.zero_le _, OwnDg.nil _ _, Below.refl _ _⟩
  case round =>
    obtain ⟨k, c, gv, rfl, rfl, hk, H⟩ := hrel
    have HO := Lib.hid H.out.1; have HBE := Lib.hid H.out.2
    clear H
    have HBW := Lib.hid (HB0.out.trans (HBE.out.mono (Nat.le_succ _)))
    have HSZ := Lib.hid (Nat.le_trans HS0.out HBE.out.size)
    by_cases hlt : k < n
    · have hd : decide ((k : Int) < (n : Int)) = true := by simp; omega
      obtain ⟨b, off, rfl, hbB, hcap, hr⟩ := HL.out.cells (by omega)
      obtain ⟨x, hx⟩ : ∃ x, l[k]? = some x := ⟨l[k]'(by have := HL.out.len; omega), List.getElem?_eq_getElem _⟩
      have HD := Lib.hid (rngB_d (range_belowG (hr k x hx) HBW.out hbB))
      have HOX := Lib.hid (HL.out.ok x (List.mem_of_getElem? hx))
      have HI := Lib.hid (info_d HOX.out)
      have HT := Lib.hid (ds_take hx)
      have HLK := Lib.hid (show k = ((l.take k).map (·.d)).length by rw [List.length_map, List.length_take, HL.out.len]; omega)
      have p1 : (0 : Int) ≤ (k : Int) := by omega
      have p2 : (k : Int) < (n : Int) := by omega
      clear hr hx
      go_wp2_with (first
          | (refine wpList_load_mid rfl 32 _ rfl b (off + k * 33) rfl _ _ HD.out Tryd.underlying32 rfl HI.out ?_)
          | (refine wpList_slice_eqG rfl 25 1 [(0, .tmp 16)] rfl [(0, .agg (dv x.d))] rfl _ _ (sliceDg _ x.d HOX.out) ?_; generalize hw7 : World.alloc wr _ = w7; have hr7 : w7.rangeAt wr.heap.size 0 (x.d.map (Value.int .u8)) := (by rw [← hw7]; exact range_row (pre := []) (post := []) (heap_alloc_new wr _) (by simp [dv]) rfl); have hb7 : Below wr.heap.size wr w7 := (by rw [← hw7]; exact (Below.refl _ _).alloc (Nat.le_refl _) _); have HR7 := Lib.hid hr7; have HO7 := Lib.hid (HO.out.below hb7); have HG7 := Lib.hid (HBE.out.trans (hb7.mono (Nat.le_trans (Nat.le_refl _) HSZ.out))); clear hw7 hr7 hb7)
          | (at_builtin; refine wpList_append_dg rfl (.tmp 11) (.tmp 17) rfl (w.heap.size + 1) _ _ k HLK.out rfl HO7.out wr.heap.size x.d rfl HR7.out HOX.out (by omega) (Nat.le_trans HS0.out HG7.out.size) ?_; intro g' c' w8 HO8 HB8 HG8))
      have HB9 := Lib.hid (HG7.out.trans HB8.out)
      go_roundw
      case rel => exact ⟨k + 1, c', g', rfl, by go_num, by omega, by rw [HT.out]; exact HO8.out, HB9.out⟩
      case measure => simp [intOf]; omega
    · obtain rfl : k = n := by omega
      have hd : decide ((k : Int) < (k : Int)) = false := by simp
      have HTK := Lib.hid (show l.take k = l from List.take_of_length_le (by rw [HL.out.len]; exact Nat.le_refl _))
      have HO1 := Lib.hid (show OwnDg wr (w.heap.size + 1) (.slice gv k c) (l.map (·.d)) by have := HO.out; rwa [HTK.out] at this)
      have HDG := Lib.hid (HO1.out.digs (by rw [List.length_map, HL.out.len]))
      have HZ1 := Lib.hid (HZ.out.below HBE.out (Nat.lt_succ_self _))
      have HDT := Lib.hid (d32_tree (l.map (·.d)) HDG.out.digs)
      have HCT := Lib.hid (refTree_any k gv k c (l.map (·.d)) wr (Nat.le_refl _) hn HDG.out)
      clear hlt
      go_wp2_with fail
      refine HCT.out.mono ?_
      rintro e w2 ⟨rfl, hb2⟩
      have H2 := Lib.hid (HZ1.out.below hb2 (Nat.lt_of_lt_of_le (Nat.lt_succ_self _) HSZ.out))
      have HB2 := Lib.hid (HBW.out.trans (hb2.mono HBW.out.size)); clear hb2
      have HID := Lib.hid (info_d HDT.out)
      go_wp2_with (refine wpList_store_row rfl 32 _ _ rfl w.heap.size _ rfl rfl 32 _ H2.out (by simpa [dv] using HID.out) (by simp [dv, HDT.out.1]) (oneCell_map _ _) ?_)
      exact bodyPost_ret (results_cell_row (P := Tryd.prog) rfl _ _ w.heap.size 32 _ (0, 0) _ rfl (setRow_heap _ _ _ _ _ _ H2.out) Tryd.underlying32 rfl (by simpa [dv] using HID.out)) rfl ⟨rfl, below_setRow HB2.out (Nat.le_refl _) _⟩
end Go.Proofs.YtfehgkpmjnmpeaaDoor
