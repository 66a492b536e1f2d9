/-
  The walk of the statement DigestNodes: it returns true for every slice of bytes and every two digests (the table of constants reads as it is laid).
-/
import Derived.Test.YtnhidfinmghjmaaDoorRefD
import Derived.Test.YtnhidfinmghjmaaDoorShaL
import Derived.Test.YtnhidfinmghjmaaDoorTreeA
import Derived.Deep.RegionHeld3
namespace Go.Proofs.YtnhidfinmghjmaaDoor
open Go.RowKit

set_option maxRecDepth 100000 in
set_option maxHeartbeats 1000000 in
theorem nodes_any (sp : Option Addr) (n cap : Nat) (b x y : List Int) (w : World) (hs : Src w w.heap.size sp n cap b) (hnil : sp = none → cap = 0) (hx : x.length = 32) (hy : y.length = 32) (hX : Byt x) (hY : Byt y) (hk : KayIn w) (hk0 : 0 < w.heap.size) :
    Calls Tryd.prog 4 #[.slice sp n cap, .agg (x.map (Value.int .u8)).toArray, .agg (y.map (Value.int .u8)).toArray] w fun e w' => e = .returned (.bool true) ∧ Below w.heap.size w w' := by
  by_cases hbig : 5000 < n
  · clear hs hk hnil
    have hd : decide ((n : Int) > 5000) = true := by simp; omega
    go_enter Tryd.func4, Tryd.ntmps4
    go_wp2
    go_ret
    exact ⟨rfl, ((Below.refl w.heap.size w).alloc (Nat.le_refl _) _).alloc (by simp) _⟩
  · have hd : decide ((n : Int) > 5000) = false := by simp; omega
    have HS := Lib.hid hs; have HNIL := Lib.hid hnil; have HK := Lib.hid hk; clear hs hnil hk
    have HLX := Lib.hid hx; have HLY := Lib.hid hy; clear hx hy
    have HRA := Lib.hid (row_new w 25 .u8 x); have HBA := Lib.hid (below_alloc w (.cells (x.map (Value.int .u8)).toArray 25)); have HSA := Lib.hid (alloc_size w (.cells (x.map (Value.int .u8)).toArray 25))
    go_enter Tryd.func4, Tryd.ntmps4
    go_wp2_with fail
    generalize hwa : World.alloc w _ = wa
    have hra : RowIn wa w.heap.size 25 .u8 x := by rw [← hwa]; exact HRA.out
    have hba : Below w.heap.size w wa := by rw [← hwa]; exact HBA.out
    have hsa : wa.heap.size = w.heap.size + 1 := by rw [← hwa]; exact HSA.out
    clear hwa HRA HBA HSA
    have hrb := row_new wa 25 .u8 y
    have hbb := below_alloc wa (.cells (y.map (Value.int .u8)).toArray 25)
    have hsb := alloc_size wa (.cells (y.map (Value.int .u8)).toArray 25)
    generalize World.alloc wa (.cells (y.map (Value.int .u8)).toArray 25) = wb at *
    rw [hsa] at hrb
    have hrgx : wb.rangeAt w.heap.size 0 (x.map (Value.int .u8)) := range_below (row_range hra) hbb (by omega)
    have hrgy : wb.rangeAt (w.heap.size + 1) 0 (y.map (Value.int .u8)) := row_range hrb
    have hB : Below w.heap.size w wb := hba.trans (hbb.mono (by omega))
    have hl2 : w.heap.size + 1 < wb.heap.size := by omega
    have hcA : ∀ w5, Below wb.heap.size wb w5 → Calls Tryd.prog 8 #[] w5 fun e w' => e = .returned (.bool true) ∧ Below wb.heap.size wb w' := fun w5 hb5 =>
      (awake_any w5 (HK.out.below (hB.trans (hb5.mono hB.size)) hk0) (by have := hb5.size; omega)).mono fun e w' ⟨he, hb⟩ => ⟨he, hb5.trans (hb.mono hb5.size)⟩
    have hcS : ∀ w5, Below wb.heap.size wb w5 → Calls Tryd.prog 11 #[.slice sp n cap] w5 fun e w' => e = .returned (.agg (dg (0 :: b))) ∧ Below wb.heap.size wb w' := fun w5 hb5 =>
      (Leaf_any sp n cap b w5 ((HS.out.below (hB.trans (hb5.mono hB.size)) (Nat.le_refl _)).more (by have := hb5.size; omega)) (HK.out.below (hB.trans (hb5.mono hB.size)) hk0) (by have := hb5.size; omega) (by omega)).mono fun e w' ⟨he, hb⟩ => ⟨he, hb5.trans (hb.mono hb5.size)⟩
    have hcR : ∀ w5, Below wb.heap.size wb w5 → Calls Tryd.prog 12 #[.slice sp n cap] w5 fun e w' => e = .returned (.agg (dg (0 :: b))) ∧ Below wb.heap.size wb w' := fun w5 hb5 =>
      (refLeaf_any sp n cap b w5 ((HS.out.below (hB.trans (hb5.mono hB.size)) (Nat.le_refl _)).more (by have := hb5.size; omega)) HNIL.out (by omega)).mono fun e w' ⟨he, hb⟩ => ⟨he, hb5.trans (hb.mono hb5.size)⟩
    have hcN : ∀ w5, Below wb.heap.size wb w5 → Calls Tryd.prog 13 #[.agg (x.map (Value.int .u8)).toArray, .agg (y.map (Value.int .u8)).toArray] w5 fun e w' => e = .returned (.agg (dg (1 :: (x ++ y)))) ∧ Below wb.heap.size wb w' := fun w5 hb5 =>
      (Node_any x y w5 HLX.out HLY.out hX hY (HK.out.below (hB.trans (hb5.mono hB.size)) hk0) (by have := hb5.size; omega)).mono fun e w' ⟨he, hb⟩ => ⟨he, hb5.trans (hb.mono hb5.size)⟩
    have hcM : ∀ w5, Below wb.heap.size wb w5 → Calls Tryd.prog 14 #[.agg (x.map (Value.int .u8)).toArray, .agg (y.map (Value.int .u8)).toArray] w5 fun e w' => e = .returned (.agg (dg (1 :: (x ++ y)))) ∧ Below wb.heap.size wb w' := fun w5 hb5 =>
      (refNode_any x y w5 HLX.out HLY.out hX hY).mono fun e w' ⟨he, hb⟩ => ⟨he, hb5.trans (hb.mono hb5.size)⟩
    have heq1 := eql_dg (0 :: b)
    have heq2 := eql_dg (1 :: (x ++ y))
    generalize dg (0 :: b) = D0 at *
    generalize dg (1 :: (x ++ y)) = D1 at *
    have hix : (Tryd.prog.info? 25).map (·.size) = some (x.map (Value.int .u8)).length := by rw [List.length_map, HLX.out]; exact Tryd.info25d
    have hiy : (Tryd.prog.info? 25).map (·.size) = some (y.map (Value.int .u8)).length := by rw [List.length_map, HLY.out]; exact Tryd.info25d
    have honex := one_map .u8 x
    have honey := one_map .u8 y
    generalize x.map (Value.int .u8) = X at *
    generalize y.map (Value.int .u8) = Y at *
    have hu := Tryd.underlying25
    have HCA := Lib.hid hcA; have HCS := Lib.hid hcS; have HCR := Lib.hid hcR; have HCN := Lib.hid hcN; have HCM := Lib.hid hcM
    have HBB := Lib.hid hB
    have hb0 : Below wb.heap.size wb wb.drew := (Below.refl _ _).drew
    have hwle : w.heap.size ≤ wb.heap.size := by omega
    have hl1 : w.heap.size < wb.heap.size := by omega
    clear hcA hcS hcR hcN hcM hX hY hB hrb hra hba hbb hsa hsb HS HNIL HK
    have keepS : ∀ w', Below wb.heap.size wb w' → w'.rangeAt w.heap.size 0 X ∧ w'.rangeAt (w.heap.size + 1) 0 Y := fun w' hb => ⟨range_below hrgx hb hl1, range_below hrgy hb hl2⟩
    refine wp_region_noPanic ?_
    refine wp_region_held_drew (S := fun w' => w'.rangeAt w.heap.size 0 X ∧ w'.rangeAt (w.heap.size + 1) 0 Y) (by kernel_rfl) (keepS _ hb0) (fun hHeld => ?_)
    refine wpAnyH_ready (rs := [0]) (by kernel_rfl) (by simp) ?_
    refine AllReadyH.cons rfl (fun K hK => ?_) AllReadyH.nil
    go_simp
    refine (HCA.out _ hb0).mono ?_
    rintro e w5 ⟨rfl, hb5⟩
    go_wp2_with fail
    refine hK.out _ _ (keepS _ hb5) (fun hHeld => ?_)
    clear hK K
    try simp only [Act.put, List.getElem_toArray, List.getElem_cons_zero, List.getElem_cons_succ, List.setIfInBounds_toArray, List.set_cons_zero, List.set_cons_succ]
    refine wpAnyH_take (i := 1) (v := ?_) rfl (by kernel_rfl) (by kernel_rfl) (by kernel_rfl) (fun _ _ _ h => h) (Or.inl ⟨by rfl, ?_⟩) hHeld ?_
    rotate_left 1
    · intro w' _
      go_simp
      all_goals with_reducible rfl
    try simp only [Act.put, List.getElem_toArray, List.getElem_cons_zero, List.getElem_cons_succ, List.setIfInBounds_toArray, List.set_cons_zero, List.set_cons_succ]
    refine wpAnyH_take (i := 2) (v := ?_) rfl (by kernel_rfl) (by kernel_rfl) (by kernel_rfl) (fun _ _ _ h => h) (Or.inl ⟨by rfl, ?_⟩) hHeld ?_
    rotate_left 1
    · intro w' _
      go_simp
      all_goals with_reducible rfl
    try simp only [Act.put, List.getElem_toArray, List.getElem_cons_zero, List.getElem_cons_succ, List.setIfInBounds_toArray, List.set_cons_zero, List.set_cons_succ]
    refine wpAnyH_take (i := 4) (v := ?_) rfl (by kernel_rfl) (by kernel_rfl) (by kernel_rfl) (fun _ _ _ h => h) (Or.inl ⟨by rfl, ?_⟩) hHeld ?_
    rotate_left 1
    · intro w' _
      go_simp
      all_goals with_reducible rfl
    try simp only [Act.put, List.getElem_toArray, List.getElem_cons_zero, List.getElem_cons_succ, List.setIfInBounds_toArray, List.set_cons_zero, List.set_cons_succ]
    refine wpAnyH_ready (rs := [3]) (by kernel_rfl) (by simp) ?_
    refine AllReadyH.cons rfl (fun K hK => ?_) AllReadyH.nil
    go_simp
    refine (HCS.out _ hb5).mono ?_
    rintro e w6 ⟨rfl, hb6⟩
    go_wp2_with fail
    refine hK.out _ _ (keepS _ hb6) (fun hHeld => ?_)
    clear hK K
    try simp only [Act.put, List.getElem_toArray, List.getElem_cons_zero, List.getElem_cons_succ, List.setIfInBounds_toArray, List.set_cons_zero, List.set_cons_succ]
    refine wpAnyH_ready (rs := [5]) (by kernel_rfl) (by simp) ?_
    refine AllReadyH.cons rfl (fun K hK => ?_) AllReadyH.nil
    go_simp
    refine (HCR.out _ hb6).mono ?_
    rintro e w7 ⟨rfl, hb7⟩
    go_wp2_with fail
    refine hK.out _ _ (keepS _ hb7) (fun hHeld => ?_)
    clear hK K
    try simp only [Act.put, List.getElem_toArray, List.getElem_cons_zero, List.getElem_cons_succ, List.setIfInBounds_toArray, List.set_cons_zero, List.set_cons_succ]
    refine wpAnyH_take (i := 6) (v := ?_) rfl (by kernel_rfl) (by kernel_rfl) (by kernel_rfl) (fun _ _ _ h => h) (Or.inl ⟨by rfl, ?_⟩) hHeld ?_
    rotate_left 1
    · intro w' _
      go_simp
      all_goals with_reducible rfl
    try simp only [Act.put, List.getElem_toArray, List.getElem_cons_zero, List.getElem_cons_succ, List.setIfInBounds_toArray, List.set_cons_zero, List.set_cons_succ]
    refine wpAnyH_take (i := 7) (v := ?_) rfl (by kernel_rfl) (by kernel_rfl) (by kernel_rfl) (fun _ _ _ h => h) (Or.inl ⟨by rfl, ?_⟩) hHeld ?_
    rotate_left 1
    · intro w' _
      go_simp
      all_goals with_reducible rfl
    try simp only [Act.put, List.getElem_toArray, List.getElem_cons_zero, List.getElem_cons_succ, List.setIfInBounds_toArray, List.set_cons_zero, List.set_cons_succ]
    refine wpAnyH_take (i := 8) (v := ?_) rfl (by kernel_rfl) (by kernel_rfl) (by kernel_rfl) (fun _ _ _ h => h) (Or.inl ⟨by rfl, ?_⟩) hHeld ?_
    rotate_left 1
    · intro w' _
      go_simp
      all_goals with_reducible rfl
    try simp only [Act.put, List.getElem_toArray, List.getElem_cons_zero, List.getElem_cons_succ, List.setIfInBounds_toArray, List.set_cons_zero, List.set_cons_succ]
    refine' wpAnyH_take (i := 9) (v := _) rfl (by kernel_rfl) (by kernel_rfl) (by kernel_rfl) (fun _ _ _ h => h) (yieldsIf_load_mid (by rfl) _ _ rfl _ _ rfl _ _ (fun w' hSw => hSw.1) hu rfl hix) hHeld _
    try simp only [Act.put, List.getElem_toArray, List.getElem_cons_zero, List.getElem_cons_succ, List.setIfInBounds_toArray, List.set_cons_zero, List.set_cons_succ]
    refine' wpAnyH_take (i := 10) (v := _) rfl (by kernel_rfl) (by kernel_rfl) (by kernel_rfl) (fun _ _ _ h => h) (yieldsIf_load_mid (by rfl) _ _ rfl _ _ rfl _ _ (fun w' hSw => hSw.2) hu rfl hiy) hHeld _
    try simp only [Act.put, List.getElem_toArray, List.getElem_cons_zero, List.getElem_cons_succ, List.setIfInBounds_toArray, List.set_cons_zero, List.set_cons_succ]
    refine' wpAnyH_take (i := 12) (v := _) rfl (by kernel_rfl) (by kernel_rfl) (by kernel_rfl) (fun _ _ _ h => h) (yieldsIf_load_mid (by rfl) _ _ rfl _ _ rfl _ _ (fun w' hSw => hSw.1) hu rfl hix) hHeld _
    try simp only [Act.put, List.getElem_toArray, List.getElem_cons_zero, List.getElem_cons_succ, List.setIfInBounds_toArray, List.set_cons_zero, List.set_cons_succ]
    refine' wpAnyH_take (i := 13) (v := _) rfl (by kernel_rfl) (by kernel_rfl) (by kernel_rfl) (fun _ _ _ h => h) (yieldsIf_load_mid (by rfl) _ _ rfl _ _ rfl _ _ (fun w' hSw => hSw.2) hu rfl hiy) hHeld _
    try simp only [Act.put, List.getElem_toArray, List.getElem_cons_zero, List.getElem_cons_succ, List.setIfInBounds_toArray, List.set_cons_zero, List.set_cons_succ]
    refine wpAnyH_ready (rs := [11]) (by kernel_rfl) (by simp) ?_
    refine AllReadyH.cons rfl (fun K hK => ?_) AllReadyH.nil
    go_simp
    refine (HCN.out _ hb7).mono ?_
    rintro e w8 ⟨rfl, hb8⟩
    go_wp2_with fail
    refine hK.out _ _ (keepS _ hb8) (fun hHeld => ?_)
    clear hK K
    try simp only [Act.put, List.getElem_toArray, List.getElem_cons_zero, List.getElem_cons_succ, List.setIfInBounds_toArray, List.set_cons_zero, List.set_cons_succ]
    refine wpAnyH_ready (rs := [14]) (by kernel_rfl) (by simp) ?_
    refine AllReadyH.cons rfl (fun K hK => ?_) AllReadyH.nil
    go_simp
    refine (HCM.out _ hb8).mono ?_
    rintro e w9 ⟨rfl, hb9⟩
    go_wp2_with fail
    refine hK.out _ _ (keepS _ hb9) (fun hHeld => ?_)
    clear hK K
    try simp only [Act.put, List.getElem_toArray, List.getElem_cons_zero, List.getElem_cons_succ, List.setIfInBounds_toArray, List.set_cons_zero, List.set_cons_succ]
    refine wpAnyH_take (i := 15) (v := ?_) rfl (by kernel_rfl) (by kernel_rfl) (by kernel_rfl) (fun _ _ _ h => h) (Or.inl ⟨by rfl, ?_⟩) hHeld ?_
    rotate_left 1
    · intro w' _
      go_simp
      all_goals with_reducible rfl
    try simp only [Act.put, List.getElem_toArray, List.getElem_cons_zero, List.getElem_cons_succ, List.setIfInBounds_toArray, List.set_cons_zero, List.set_cons_succ]
    refine wpAnyH_take (i := 16) (v := ?_) rfl (by kernel_rfl) (by kernel_rfl) (by kernel_rfl) (fun _ _ _ h => h) (Or.inl ⟨by rfl, ?_⟩) hHeld ?_
    rotate_left 1
    · intro w' _
      go_simp
      all_goals with_reducible rfl
    try simp only [Act.put, List.getElem_toArray, List.getElem_cons_zero, List.getElem_cons_succ, List.setIfInBounds_toArray, List.set_cons_zero, List.set_cons_succ]
    refine wpAnyH_ready (rs := [17]) (by kernel_rfl) (by simp) ?_
    refine AllReadyH.cons rfl (fun K hK => ?_) AllReadyH.nil
    go_simp
    refine hK.out _ _ (keepS _ hb9) (fun hHeld => ?_)
    clear hK K
    refine wpAnyH_done (by kernel_rfl) ?_ _
    refine NoPanic.normal ?_
    go_wp2
    go_ret
    exact ⟨rfl, HBB.out.trans (hb9.mono hwle)⟩
end Go.Proofs.YtnhidfinmghjmaaDoor
