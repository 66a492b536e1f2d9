/-
  The walk of the reference's Tree (conditions: the list has at most 1000000 elements and reads as lists of 32 bytes).
-/
import Derived.Test.YtfehgkpmjnmpeaaDoorRefD
import Derived.Test.YtfehgkpmjnmpeaaDoorGf
namespace Go.Proofs.YtfehgkpmjnmpeaaDoor
open Go.RowKit

set_option maxRecDepth 100000 in
set_option maxHeartbeats 1000000 in
theorem rtree_zeroW (da : Option Addr) (cap : Nat) (l : List (List Int)) (w : World) (hl : DigsIn w w.heap.size da 0 cap l) :
    Calls Tryd.prog 35 #[.slice da 0 cap] w (TreeRes w l) := by
  have HN := Lib.hid (NewZ.new w)
  have HL := Lib.hid hl; clear hl
  have hb := build25
  have HI := Lib.hid (dv_info (List.replicate 32 0) (by simp))
  have HS := Lib.hid (dv_size32 (List.replicate 32 0) (by simp))
  go_enter Tryd.func35, Tryd.ntmps35
  go_wp2_with (generalize hw0 : World.alloc w _ = w0; have hn : NewZ w w0 := (by rw [← hw0]; exact HN.out); have HZ := Lib.hid hn; clear hw0 hn; refine wpList_store_row rfl 32 _ _ rfl w.heap.size (dv (List.replicate 32 0)) rfl rfl 32 _ HZ.out.z HI.out HS.out (dv_one _) ?_)
  refine bodyPost_ret (results_cell_row (P := Tryd.prog) rfl _ _ w.heap.size 32 (dv (List.replicate 32 0)) (0, 0) _ rfl (setRow_heap _ _ _ _ _ _ HZ.out.z) Tryd.underlying32 rfl HI.out) rfl ⟨?_, below_setRow HZ.out.b (Nat.le_refl _) _⟩
  rw [tree_zero l HL.out.len]
set_option maxRecDepth 100000 in
set_option maxHeartbeats 1000000 in
theorem rtree_oneW (da : Option Addr) (cap : Nat) (l : List (List Int)) (w : World) (hl : DigsIn w w.heap.size da 1 cap l) :
    Calls Tryd.prog 35 #[.slice da 1 cap] w (TreeRes w l) := by
  have HN := Lib.hid (NewZ.new w)
  obtain ⟨b, off, rfl, hlt, hc, hr⟩ := hl.cells (by omega)
  have hr0 := range_below (hr 0 (by omega)) HN.out.b hlt
  rw [show off + 0 * 32 = off by omega] at hr0
  have hx : (l.getD 0 []).length = 32 ∧ Byt (l.getD 0 []) := by rw [← tree_one l hl.len]; exact tree_digs l hl.digs
  have HX := Lib.hid hx; have HR := Lib.hid hr0; have HL := Lib.hid hl; clear hx hr0 hl hr
  have hi : (Tryd.prog.info? 32).map (·.size) = some ((l.getD 0 []).map (Value.int .u8)).length := by rw [List.length_map, HX.out.1]; exact Tryd.info25d
  have HI := Lib.hid hi; clear hi
  have HI2 := Lib.hid (dv_info (l.getD 0 []) HX.out.1)
  have HS := Lib.hid (dv_size32 (l.getD 0 []) HX.out.1)
  go_enter Tryd.func35, Tryd.ntmps35
  go_wp2_with (first
    | (generalize hw0 : World.alloc w _ = w0; have hn : NewZ w w0 := (by rw [← hw0]; exact HN.out); have hr0 : w0.rangeAt b off ((l.getD 0 []).map (Value.int .u8)) := (by rw [← hw0]; exact HR.out); have HZ := Lib.hid hn; have HR0 := Lib.hid hr0; clear hw0 hn hr0; refine wpList_load_mid rfl 32 _ rfl b off rfl _ _ HR0.out Tryd.underlying32 rfl HI.out ?_)
    | (refine wpList_store_row rfl 32 _ _ rfl w.heap.size _ rfl rfl 32 _ HZ.out.z HI2.out HS.out (dv_one _) ?_))
  refine bodyPost_ret (results_cell_row (P := Tryd.prog) rfl _ _ w.heap.size 32 (dv (l.getD 0 [])) (0, 0) _ rfl (setRow_heap _ _ _ _ _ _ HZ.out.z) Tryd.underlying32 rfl HI2.out) rfl ⟨?_, below_setRow HZ.out.b (Nat.le_refl _) _⟩
  rw [tree_one l HL.out.len]

set_option maxRecDepth 100000 in
set_option maxHeartbeats 1000000 in
theorem rtree_moreW (da : Option Addr) (n cap : Nat) (l : List (List Int)) (w : World) (hl : DigsIn w w.heap.size da n cap l) (hn2 : 2 ≤ n) (hmax : n ≤ 1000000)
    (ih : ∀ (da' : Option Addr) (n' cap' : Nat) (l' : List (List Int)) (w' : World), n' < n → DigsIn w' w'.heap.size da' n' cap' l' → Calls Tryd.prog 35 #[.slice da' n' cap'] w' (TreeRes w' l')) :
    Calls Tryd.prog 35 #[.slice da n cap] w (TreeRes w l) := by
  have HN := Lib.hid (NewZ.new w)
  obtain ⟨b, off, rfl, hlt, hcap, _⟩ := hl.cells (by omega)
  have HL := Lib.hid hl; have IH := Lib.hid ih; clear hl ih
  have e0 : ((n : Int) == 0) = false := by simp; omega
  have e1 : ((n : Int) == 1) = false := by simp; omega
  go_enter Tryd.func35, Tryd.ntmps35
  go_wp2_with fail
  generalize hw0 : World.alloc w _ = w0
  have hn : NewZ w w0 := by rw [← hw0]; exact HN.out
  have hs0 := hn.s
  have hb0 := hn.b
  have HZ := Lib.hid hn.z
  clear hw0 HN hn
  have HB0 := Lib.hid hb0; clear hb0
  go_loop [3] (fun v => ∃ k : Nat, v = .int .i64 k ∧ OnWay n k) (fun v => n - (intOf v).toNat)
  case atStart => exact ⟨1, rfl, OnWay.start n (by omega)⟩
  case round =>
    obtain ⟨k, rfl, hw⟩ := hrel
    have hk1 := hw.1
    have hk2 := hw.2.1
    have HW := Lib.hid hw; clear hw
    by_cases hlt2 : 2 * k < n
    · have hd : decide (2 * (k : Int) < (n : Int)) = true := by simp; omega
      go_wp2
      go_round
      case rel => exact ⟨2 * k, by first | rfl | (simp; omega), HW.out.step hlt2⟩
      case measure => simp [intOf]; omega
    · have hd : decide (2 * (k : Int) < (n : Int)) = false := by simp; omega
      have HKK := Lib.hid (HW.out.fin hlt2)
      have hi1 : (0 : Int) ≤ (k : Int) := by omega
      have hi2 : (k : Int) ≤ (n : Int) := by omega
      have hi3 : (n : Int) ≤ (cap : Int) := by omega
      have hi4 : (k : Int) ≤ (cap : Int) := by omega
      have hi5 : ¬ cap = k := by omega
      clear HW
      go_wp2_with fail
      have hd2 : Below w.heap.size w w0.drew := HB0.out.drew
      have hla : DigsIn w0.drew w0.drew.heap.size (some ⟨b, off, none⟩) k cap (l.take k) := ((HL.out.below hd2 (Nat.le_refl _)).takes k (by omega)).below (Below.refl w0.drew.heap.size w0.drew) (by show _ ≤ w0.heap.size; omega)
      have HC1 := Lib.hid (IH.out _ _ _ _ w0.drew hk2 hla)
      have hc2 : ∀ w5, Below w0.heap.size w0 w5 → Calls Tryd.prog 35 #[.slice (some ⟨b, off + k * 32, none⟩) (n - k) (cap - k)] w5 fun e w' => e = .returned (.agg (dv (tree (l.drop k)))) ∧ Below w0.heap.size w0 w' := by
        intro w5 hb5
        have hs5 := hb5.size
        have hbe := HB0.out.trans (hb5.mono (by omega))
        have hlb : DigsIn w5 w5.heap.size (some ⟨b, off + k * 32, none⟩) (n - k) (cap - k) (l.drop k) := ((HL.out.below hbe (Nat.le_refl _)).drops k (by omega)).below (Below.refl w5.heap.size w5) (by omega)
        exact (IH.out _ _ _ _ w5 (by omega) hlb).mono fun e w' ⟨he, hb⟩ => ⟨he, hb5.trans (hb.mono hs5)⟩
      have HC2 := Lib.hid hc2; clear hc2
      have hc3 : ∀ w5, Below w0.heap.size w0 w5 → Calls Tryd.prog 51 #[.agg (dv (tree (l.take k))), .agg (dv (tree (l.drop k)))] w5 fun e w' => e = .returned (.agg (dg (1 :: (tree (l.take k) ++ tree (l.drop k))))) ∧ Zrow w' w.heap.size ∧ Below w.heap.size w w' := by
        intro w5 hb5
        have hs5 := hb5.size
        have hbe := HB0.out.trans (hb5.mono (by omega))
        have h1 := tree_digs (l.take k) (HL.out.digs.take k)
        have h2 := tree_digs (l.drop k) (HL.out.digs.drop k)
        have hz5 := HZ.out.below hb5 (by omega)
        exact (refNode_any (tree (l.take k)) (tree (l.drop k)) w5 h1.1 h2.1 h1.2 h2.2).mono fun e w' ⟨he, hb⟩ => ⟨he, hz5.below hb (by omega), hbe.trans (hb.mono (by omega))⟩
      have HC3 := Lib.hid hc3; clear hc3 hd2 hla
      have hrefl : Below w0.heap.size w0 w0.drew := (Below.refl _ _).drew
      have hfin : dg (1 :: (tree (l.take k) ++ tree (l.drop k))) = dv (tree l) := by
        rw [tree_more l (by rw [HL.out.len]; exact hn2), HL.out.len, ← HKK.out]; rfl
      have HFIN := Lib.hid hfin; clear hfin
      go_region_with (first
        | (go_at_call 35; (with_reducible refine HC1.out.mono ?_); rintro e w5 ⟨rfl, hb5⟩; have hb5' := hrefl.trans hb5)
        | (go_at_call 35; (with_reducible refine (HC2.out w5 hb5').mono ?_); rintro e w6 ⟨rfl, hb6⟩)
        | (go_at_call 51; (with_reducible refine (HC3.out w6 hb6).mono ?_); rintro e w7 ⟨rfl, hz7, hb7⟩; have hst := store25 hz7 (1 :: (tree (l.take k) ++ tree (l.drop k)))))
      all_goals
        go_wp2
        have HZ7 := Lib.hid hz7; clear hz7
        exact bodyPost_ret (results_cell_row (P := Tryd.prog) rfl _ _ w.heap.size 32 _ (0, 0) _ rfl (setRow_heap _ _ _ _ _ _ HZ7.out) Tryd.underlying32 rfl (dg_info _)) rfl ⟨by rw [HFIN.out], below_setRow hb7 (Nat.le_refl _) _⟩

theorem refTree_any : ∀ (m : Nat) (da : Option Addr) (n cap : Nat) (l : List (List Int)) (w : World), n ≤ m → n ≤ 1000000 → DigsIn w w.heap.size da n cap l →
    Calls Tryd.prog 35 #[.slice da n cap] w (TreeRes w l)
  | m, da, 0, cap, l, w, _, _, hl => rtree_zeroW da cap l w hl
  | m, da, 1, cap, l, w, _, _, hl => rtree_oneW da cap l w hl
  | m + 1, da, n + 2, cap, l, w, hm, hmax, hl =>
    rtree_moreW da (n + 2) cap l w hl (by omega) hmax fun da' n' cap' l' w' hlt hl' => refTree_any m da' n' cap' l' w' (by omega) (by omega) hl'
end Go.Proofs.YtfehgkpmjnmpeaaDoor
