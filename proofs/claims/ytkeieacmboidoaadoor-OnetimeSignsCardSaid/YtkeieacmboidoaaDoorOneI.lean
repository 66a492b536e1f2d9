/-
  One-time signatures: the walks of Secret and step (condition: the table of constants reads as it is laid).
-/
import Derived.Test.YtkeieacmboidoaaDoorOneH
import Derived.Deep.RegionHeld3
namespace Go.Proofs.YtkeieacmboidoaaDoor
open Go.RowKit Go.Proofs.YtkeieacmboidoaaDoor.One

def secB (seed : List Int) (leaf c : Int) : List Int := hfB ([3] ++ seed ++ [lb1 leaf, lb0 leaf] ++ [c % 256])
def stepB (x : List Int) (leaf c p : Int) : List Int := hfB ([4] ++ x ++ [lb1 leaf, lb0 leaf] ++ [c % 256, p % 256])
theorem secB_H16 (x : List Int) (leaf c : Int) : H16 (secB x leaf c) := hfB_H16 _
theorem stepB_H16 (x : List Int) (leaf c p : Int) : H16 (stepB x leaf c p) := hfB_H16 _
/-- two boxes: an array of bytes, and room for a half -/
structure Two (w : World) (x : List Int) (w0 : World) : Prop where
  x : RowIn w0 w.heap.size 23 .u8 x
  z : w0.heap[w.heap.size + 1]? = some (.cells (Array.replicate 16 (Value.int .u8 0)) 23 (0, 0))
  b : Below w.heap.size w w0
  s : w0.heap.size = w.heap.size + 2
theorem Two.new (w : World) (x : List Int) : Two w x ((w.alloc (.cells (hvA x) 23)).alloc (.cells (Array.replicate 16 (Value.int .u8 0)) 23)) :=
  ⟨(heap_alloc_old _ _ (by simp)).trans (heap_alloc_new w _), by have h := heap_alloc_new (w.alloc (.cells (hvA x) 23)) (.cells (Array.replicate 16 (Value.int .u8 0)) 23); rw [World.size_alloc] at h; exact h, ((Below.refl _ _).alloc (Nat.le_refl _) _).alloc (by simp) _, by simp⟩
/-- a row that was just laid -/
structure RowB (w : World) (t : TypeId) (l : List Int) (w' : World) : Prop where
  r : RowIn w' w.heap.size t .u8 l
  b : Below w.heap.size w w'
  s : w'.heap.size = w.heap.size + 1
theorem RowB.new (w : World) (t : TypeId) (l : List Int) : RowB w t l (w.alloc (.cells (l.map (Value.int .u8)).toArray t)) := ⟨heap_alloc_new w _, below_alloc _ _, alloc_size _ _⟩
theorem RowB.drew (w : World) (t : TypeId) (l : List Int) : RowB w t l (World.drew (w.alloc (.cells (l.map (Value.int .u8)).toArray t))) := ⟨heap_alloc_new w _, (below_alloc _ _).drew, alloc_size _ _⟩
/-- Half of four parts in rows -/
theorem four_half (tag : Int) (x t cs : List Int) (n : Nat) (w : World) (ba bh bq bc : Nat) (h1 : RowIn w ba 5 .u8 [tag]) (h2 : RowIn w bh 23 .u8 x) (h3 : RowIn w bq 47 .u8 t) (h4 : RowIn w bc 5 .u8 cs)
    (l1 : ba < w.heap.size) (l2 : bh < w.heap.size) (l3 : bq < w.heap.size) (l4 : bc < w.heap.size) (hx : H16 x) (ht : 0 ≤ tag ∧ tag < 256) (hq : Byt [t.getD 0 0, t.getD 1 0]) (hc : Byt cs) (hn : cs.length = n) (hk : KayIn w) (hk0 : 0 < w.heap.size) (ht2 : t = [t.getD 0 0, t.getD 1 0] := by rfl) (hn2 : n ≤ 100 := by decide) :
    Calls Tryd.prog 23 #[.slice (some ⟨w.heap.size, 0, none⟩) 4 4] (w.alloc (.cells #[.slice (some ⟨ba, 0, none⟩) 1 1, .slice (some ⟨bh, 0, none⟩) 16 16, .slice (some ⟨bq, 0, none⟩) 2 2, .slice (some ⟨bc, 0, none⟩) n n] 50)) fun e w' => e = .returned (.agg (hvA (hfB ([tag] ++ x ++ t ++ cs)))) ∧ Below w.heap.size w w' := by
  subst hn
  have hl2 : t.length = 2 := by rw [ht2]; rfl
  have hb2 : Byt t := by rw [ht2]; exact hq
  have h := halfN [⟨some ⟨ba, 0, none⟩, 1, 1, [tag]⟩, ⟨some ⟨bh, 0, none⟩, 16, 16, x⟩, ⟨some ⟨bq, 0, none⟩, 2, 2, t⟩, ⟨some ⟨bc, 0, none⟩, cs.length, cs.length, cs⟩] w (by
    intro q hq
    simp only [List.mem_cons, List.not_mem_nil, or_false] at hq
    rcases hq with rfl | rfl | rfl | rfl
    · exact bytes_block (L := [tag]) h1 (fun y hy => by rw [List.mem_singleton.1 hy]; exact ht) l1 (by simp)
    · have := bytes_block (cap := 16) h2 hx.2 l2 (by rw [hx.1]; exact Nat.le_refl _); rw [hx.1] at this; exact this
    · have := bytes_block (cap := 2) h3 hb2 l3 (by rw [hl2]; exact Nat.le_refl _); rw [hl2] at this; exact this
    · exact bytes_block h4 hc l4 (Nat.le_refl _)) hk hk0 (by simp only [cat, List.map_cons, List.map_nil, List.flatten_cons, List.flatten_nil, List.length_append, List.length_cons, List.length_nil]; rw [hx.1, hl2]; omega) (show 4 ≤ 1099511627776 by omega)
  have e : cat [⟨some ⟨ba, 0, none⟩, 1, 1, [tag]⟩, ⟨some ⟨bh, 0, none⟩, 16, 16, x⟩, ⟨some ⟨bq, 0, none⟩, 2, 2, t⟩, ⟨some ⟨bc, 0, none⟩, cs.length, cs.length, cs⟩] = [tag] ++ x ++ t ++ cs := by simp [cat]
  rw [e] at h
  exact h
set_option maxRecDepth 100000 in
set_option maxHeartbeats 4000000 in
theorem secret_any (x : List Int) (leaf c : Int) (w : World) (hs : H16 x) (hk : KayIn w) (hk0 : 0 < w.heap.size) :
    Calls Tryd.prog 8 #[.agg (hvA x), .int .i64 leaf, .int .i64 c] w fun e w' => e = .returned (.agg (hvA (secB x leaf c))) ∧ Below w.heap.size w w' := by
  have HK := Lib.hid hk; have HS := Lib.hid hs; clear hk hs
  have HT := Lib.hid (Two.new w x)
  go_enter Tryd.func8, Tryd.ntmps8
  go_wp2_with fail
  generalize hw0 : World.alloc (World.alloc w _) _ = w0
  have HT0 : Hid (Two w x w0) := by rw [← hw0]; exact HT.out
  clear hw0 HT
  generalize hb : w.heap.size = b at *
  have HBZ := Lib.hid hb; clear hb
  refine (leafBytes_any leaf w0).mono ?_
  rintro e w1 ⟨rfl, hb1⟩
  have HB1 := Lib.hid hb1; clear hb1
  have hz1 : b + 2 ≤ w1.heap.size := by have h1 := HB1.out.size; have h2 := HT0.out.s; have h3 := HBZ.out; omega
  have hz0 : b + 2 ≤ w0.heap.size := by have h2 := HT0.out.s; have h3 := HBZ.out; omega
  have HN := Lib.hid (RowB.new w1 47 [lb1 leaf, lb0 leaf])
  go_wp2_with fail
  generalize hw2 : World.alloc w1 _ = w2
  have HR2 : Hid (RowB w1 47 [lb1 leaf, lb0 leaf] w2) := by rw [← hw2]; exact HN.out
  clear hw2 HN
  generalize hq : w1.heap.size = q at *
  have HQQ := Lib.hid hq; clear hq
  have HQ2 : Hid (RowIn w2 q 47 .u8 [lb1 leaf, lb0 leaf]) := by rw [← HQQ.out]; exact HR2.out.r
  have hq2 : q < w2.heap.size := by have h1 := HR2.out.s; have h2 := HQQ.out; omega
  have hb2 : b < w2.heap.size := by omega
  have hz2 : b + 1 < w2.heap.size := by omega
  have HB02 : Hid (Below w0.heap.size w0 w2) := by have h1 := HR2.out.b; exact HB1.out.trans (h1.mono HB1.out.size)
  have HX2 : Hid (RowIn w2 b 23 .u8 x) := by have h := HT0.out.x; rw [HBZ.out] at h; exact h.below HB02.out (by omega)
  have HZ2 : Hid (w2.heap[b + 1]? = some (.cells (Array.replicate 16 (Value.int .u8 0)) 23 (0, 0))) := by have h := HT0.out.z; rw [HBZ.out] at h; exact (HB02.out.block _ (by omega)).trans h
  have HB2 : Hid (Below b w w2) := by have h := HT0.out.b; rw [HBZ.out] at h; exact h.trans (HB02.out.mono (by omega))
  have HKK : Hid (KayIn w2) := HK.out.below HB2.out hk0
  have hk2 : 0 < w2.heap.size := by omega
  clear HR2 HB1 HT0 HK
  refine wp_region_held_drew (S := fun w' => True) (by kernel_rfl) trivial (fun hHeld => ?_)
  refine wpAnyH_take (i := 1) (oi := _) (v := ?v1n1) rfl (by kernel_rfl) (by kernel_rfl) (by kernel_rfl) (fun _ _ _ h => h) (Or.inl ⟨by rfl, ?hy1n1⟩) (by assumption) ?rest1n1
  case hy1n1 =>
    intro w' hSw
    go_simp
    try with_reducible rfl
  try simp only [Act.put, List.getElem_toArray, List.getElem_cons_succ, List.getElem_cons_zero, List.setIfInBounds_toArray, List.set_cons_zero, List.set_cons_succ]
  refine wpAnyH_take (i := 2) (oi := _) (v := ?v2n2) rfl (by kernel_rfl) (by kernel_rfl) (by kernel_rfl) (fun _ _ _ h => h) (Or.inl ⟨by rfl, ?hy2n2⟩) (by assumption) ?rest2n2
  case hy2n2 =>
    intro w' hSw
    go_simp
    try with_reducible rfl
  try simp only [Act.put, List.getElem_toArray, List.getElem_cons_succ, List.getElem_cons_zero, List.setIfInBounds_toArray, List.set_cons_zero, List.set_cons_succ]
  refine wpAnyH_take (i := 3) (oi := _) (v := ?v3n3) rfl (by kernel_rfl) (by kernel_rfl) (by kernel_rfl) (fun _ _ _ h => h) (Or.inl ⟨by rfl, ?hy3n3⟩) (by assumption) ?rest3n3
  case hy3n3 =>
    intro w' hSw
    go_simp
    try with_reducible rfl
  try simp only [Act.put, List.getElem_toArray, List.getElem_cons_succ, List.getElem_cons_zero, List.setIfInBounds_toArray, List.set_cons_zero, List.set_cons_succ]
  refine wpAnyH_take (i := 4) (oi := _) (v := ?v4n4) rfl (by kernel_rfl) (by kernel_rfl) (by kernel_rfl) (fun _ _ _ h => h) (Or.inl ⟨by rfl, ?hy4n4⟩) (by assumption) ?rest4n4
  case hy4n4 =>
    intro w' hSw
    go_simp
    try with_reducible rfl
  try simp only [Act.put, List.getElem_toArray, List.getElem_cons_succ, List.getElem_cons_zero, List.setIfInBounds_toArray, List.set_cons_zero, List.set_cons_succ]
  refine wpAnyH_ready (rs := [0, 5]) (by kernel_rfl) (by simp) (AllReadyH.cons (o := _) rfl (fun K hK => ?_) (AllReadyH.cons (o := _) rfl (fun K hK => ?_) AllReadyH.nil))
  · have HO := Lib.hid (RowB.drew w2 5 [3])
    go_simp
    generalize hw : World.drew (World.alloc w2 _) = w3
    have HOw3 : Hid (RowB w2 5 [3] w3) := by rw [← hw]; exact HO.out
    clear hw HO
    refine hK.out _ _ trivial (fun hHeld => ?_)
    clear hK K
    try simp only [Act.put, List.getElem_toArray, List.getElem_cons_succ, List.getElem_cons_zero, List.setIfInBounds_toArray, List.set_cons_zero, List.set_cons_succ]
    refine wpAnyH_ready (rs := [5]) (by kernel_rfl) (by simp) (AllReadyH.cons (o := _) rfl (fun K hK => ?_) AllReadyH.nil)
    have HO := Lib.hid (RowB.new w3 5 [c % 256])
    go_simp
    generalize hw : World.alloc w3 _ = w4
    have HOw4 : Hid (RowB w3 5 [c % 256] w4) := by rw [← hw]; exact HO.out
    clear hw HO
    refine hK.out _ _ trivial (fun hHeld => ?_)
    clear hK K
    try simp only [Act.put, List.getElem_toArray, List.getElem_cons_succ, List.getElem_cons_zero, List.setIfInBounds_toArray, List.set_cons_zero, List.set_cons_succ]
    have hs3 := HOw3.out.s
    have hs4 := HOw4.out.s
    have HB4 : Hid (Below w2.heap.size w2 w4) := HOw3.out.b.trans (HOw4.out.b.mono (by omega))
    have HCH := Lib.hid (show Calls _ _ _ _ (fun e w' => e = .returned (.agg (hvA (secB x leaf c))) ∧ Below w4.heap.size w4 w') from four_half 3 x [lb1 leaf, lb0 leaf] [c % 256] 1 w4 (w2.heap.size) b q (w3.heap.size) (HOw3.out.r.below HOw4.out.b (by have := HOw3.out.s; omega)) (HX2.out.below HB4.out hb2) (HQ2.out.below HB4.out hq2) HOw4.out.r (by omega) (by omega) (by omega) (by omega) HS.out (by decide) (two_byt _ _) (one_byt _) rfl (HKK.out.below HB4.out hk2) (by omega))
    clear hs3 hs4
    refine wpAnyH_ready (rs := [6]) (by kernel_rfl) (by simp) (AllReadyH.cons (o := _) rfl (fun K hK => ?_) AllReadyH.nil)
    go_simp
    refine hK.out _ _ trivial (fun hHeld => ?_)
    clear hK K
    try simp only [Act.put, List.getElem_toArray, List.getElem_cons_succ, List.getElem_cons_zero, List.setIfInBounds_toArray, List.set_cons_zero, List.set_cons_succ]
    refine wpAnyH_ready (rs := [7]) (by kernel_rfl) (by simp) (AllReadyH.cons (o := _) rfl (fun K hK => ?_) AllReadyH.nil)
    go_simp
    with_reducible refine HCH.out.mono ?_
    rintro e w6 ⟨rfl, hb6⟩
    have HB6 : Hid (Below w2.heap.size w2 w6) := HB4.out.trans (hb6.mono HB4.out.size)
    have HZ6 : Hid (w6.heap[b + 1]? = some (.cells (Array.replicate 16 (Value.int .u8 0)) 23 (0, 0))) := (HB6.out.block _ hz2).trans HZ2.out
    clear hb6
    go_wp2_with fail
    refine hK.out _ _ trivial (fun hHeld => ?_)
    clear hK K
    try simp only [Act.put, List.getElem_toArray, List.getElem_cons_succ, List.getElem_cons_zero, List.setIfInBounds_toArray, List.set_cons_zero, List.set_cons_succ]
    refine wpAnyH_ready (rs := [8]) (by kernel_rfl) (by simp) (AllReadyH.cons (o := _) rfl (fun K hK => ?_) AllReadyH.nil)
    rw [if_pos (by rfl)]
    refine wp_store_row 23 _ _ rfl (b + 1) _ rfl rfl 23 _ HZ6.out (info_h (secB_H16 _ _ _)) (size_h (secB_H16 _ _ _)) (one_h _) ?_
    refine hK.out _ _ trivial (fun hHeld => ?_)
    clear hK K
    try simp only [Act.put, List.getElem_toArray, List.getElem_cons_succ, List.getElem_cons_zero, List.setIfInBounds_toArray, List.set_cons_zero, List.set_cons_succ]
    refine wpAnyH_done (by kernel_rfl) ?_ _
    go_wp2_with fail
    exact bodyPost_ret (results_cell_row (P := Tryd.prog) rfl _ _ (b + 1) 23 _ (0, 0) _ rfl (setRow_heap _ _ _ _ _ _ HZ6.out) Tryd.underlying23 rfl (info_h (secB_H16 _ _ _))) rfl ⟨rfl, by rw [HBZ.out]; exact below_setRow (HB2.out.trans (HB6.out.mono (by omega))) (by omega) _⟩
  · have HO := Lib.hid (RowB.drew w2 5 [c % 256])
    go_simp
    generalize hw : World.drew (World.alloc w2 _) = w3
    have HOw3 : Hid (RowB w2 5 [c % 256] w3) := by rw [← hw]; exact HO.out
    clear hw HO
    refine hK.out _ _ trivial (fun hHeld => ?_)
    clear hK K
    try simp only [Act.put, List.getElem_toArray, List.getElem_cons_succ, List.getElem_cons_zero, List.setIfInBounds_toArray, List.set_cons_zero, List.set_cons_succ]
    refine wpAnyH_ready (rs := [0]) (by kernel_rfl) (by simp) (AllReadyH.cons (o := _) rfl (fun K hK => ?_) AllReadyH.nil)
    have HO := Lib.hid (RowB.new w3 5 [3])
    go_simp
    generalize hw : World.alloc w3 _ = w4
    have HOw4 : Hid (RowB w3 5 [3] w4) := by rw [← hw]; exact HO.out
    clear hw HO
    refine hK.out _ _ trivial (fun hHeld => ?_)
    clear hK K
    try simp only [Act.put, List.getElem_toArray, List.getElem_cons_succ, List.getElem_cons_zero, List.setIfInBounds_toArray, List.set_cons_zero, List.set_cons_succ]
    have hs3 := HOw3.out.s
    have hs4 := HOw4.out.s
    have HB4 : Hid (Below w2.heap.size w2 w4) := HOw3.out.b.trans (HOw4.out.b.mono (by omega))
    have HCH := Lib.hid (show Calls _ _ _ _ (fun e w' => e = .returned (.agg (hvA (secB x leaf c))) ∧ Below w4.heap.size w4 w') from four_half 3 x [lb1 leaf, lb0 leaf] [c % 256] 1 w4 (w3.heap.size) b q (w2.heap.size) HOw4.out.r (HX2.out.below HB4.out hb2) (HQ2.out.below HB4.out hq2) (HOw3.out.r.below HOw4.out.b (by have := HOw3.out.s; omega)) (by omega) (by omega) (by omega) (by omega) HS.out (by decide) (two_byt _ _) (one_byt _) rfl (HKK.out.below HB4.out hk2) (by omega))
    clear hs3 hs4
    refine wpAnyH_ready (rs := [6]) (by kernel_rfl) (by simp) (AllReadyH.cons (o := _) rfl (fun K hK => ?_) AllReadyH.nil)
    go_simp
    refine hK.out _ _ trivial (fun hHeld => ?_)
    clear hK K
    try simp only [Act.put, List.getElem_toArray, List.getElem_cons_succ, List.getElem_cons_zero, List.setIfInBounds_toArray, List.set_cons_zero, List.set_cons_succ]
    refine wpAnyH_ready (rs := [7]) (by kernel_rfl) (by simp) (AllReadyH.cons (o := _) rfl (fun K hK => ?_) AllReadyH.nil)
    go_simp
    with_reducible refine HCH.out.mono ?_
    rintro e w6 ⟨rfl, hb6⟩
    have HB6 : Hid (Below w2.heap.size w2 w6) := HB4.out.trans (hb6.mono HB4.out.size)
    have HZ6 : Hid (w6.heap[b + 1]? = some (.cells (Array.replicate 16 (Value.int .u8 0)) 23 (0, 0))) := (HB6.out.block _ hz2).trans HZ2.out
    clear hb6
    go_wp2_with fail
    refine hK.out _ _ trivial (fun hHeld => ?_)
    clear hK K
    try simp only [Act.put, List.getElem_toArray, List.getElem_cons_succ, List.getElem_cons_zero, List.setIfInBounds_toArray, List.set_cons_zero, List.set_cons_succ]
    refine wpAnyH_ready (rs := [8]) (by kernel_rfl) (by simp) (AllReadyH.cons (o := _) rfl (fun K hK => ?_) AllReadyH.nil)
    rw [if_pos (by rfl)]
    refine wp_store_row 23 _ _ rfl (b + 1) _ rfl rfl 23 _ HZ6.out (info_h (secB_H16 _ _ _)) (size_h (secB_H16 _ _ _)) (one_h _) ?_
    refine hK.out _ _ trivial (fun hHeld => ?_)
    clear hK K
    try simp only [Act.put, List.getElem_toArray, List.getElem_cons_succ, List.getElem_cons_zero, List.setIfInBounds_toArray, List.set_cons_zero, List.set_cons_succ]
    refine wpAnyH_done (by kernel_rfl) ?_ _
    go_wp2_with fail
    exact bodyPost_ret (results_cell_row (P := Tryd.prog) rfl _ _ (b + 1) 23 _ (0, 0) _ rfl (setRow_heap _ _ _ _ _ _ HZ6.out) Tryd.underlying23 rfl (info_h (secB_H16 _ _ _))) rfl ⟨rfl, by rw [HBZ.out]; exact below_setRow (HB2.out.trans (HB6.out.mono (by omega))) (by omega) _⟩
set_option maxRecDepth 100000 in
set_option maxHeartbeats 4000000 in
theorem step_any (x : List Int) (leaf c p : Int) (w : World) (hs : H16 x) (hk : KayIn w) (hk0 : 0 < w.heap.size) :
    Calls Tryd.prog 25 #[.agg (hvA x), .int .i64 leaf, .int .i64 c, .int .i64 p] w fun e w' => e = .returned (.agg (hvA (stepB x leaf c p))) ∧ Below w.heap.size w w' := by
  have HK := Lib.hid hk; have HS := Lib.hid hs; clear hk hs
  have HT := Lib.hid (Two.new w x)
  go_enter Tryd.func25, Tryd.ntmps25
  go_wp2_with fail
  generalize hw0 : World.alloc (World.alloc w _) _ = w0
  have HT0 : Hid (Two w x w0) := by rw [← hw0]; exact HT.out
  clear hw0 HT
  generalize hb : w.heap.size = b at *
  have HBZ := Lib.hid hb; clear hb
  refine (leafBytes_any leaf w0).mono ?_
  rintro e w1 ⟨rfl, hb1⟩
  have HB1 := Lib.hid hb1; clear hb1
  have hz1 : b + 2 ≤ w1.heap.size := by have h1 := HB1.out.size; have h2 := HT0.out.s; have h3 := HBZ.out; omega
  have hz0 : b + 2 ≤ w0.heap.size := by have h2 := HT0.out.s; have h3 := HBZ.out; omega
  have HN := Lib.hid (RowB.new w1 47 [lb1 leaf, lb0 leaf])
  go_wp2_with fail
  generalize hw2 : World.alloc w1 _ = w2
  have HR2 : Hid (RowB w1 47 [lb1 leaf, lb0 leaf] w2) := by rw [← hw2]; exact HN.out
  clear hw2 HN
  generalize hq : w1.heap.size = q at *
  have HQQ := Lib.hid hq; clear hq
  have HQ2 : Hid (RowIn w2 q 47 .u8 [lb1 leaf, lb0 leaf]) := by rw [← HQQ.out]; exact HR2.out.r
  have hq2 : q < w2.heap.size := by have h1 := HR2.out.s; have h2 := HQQ.out; omega
  have hb2 : b < w2.heap.size := by omega
  have hz2 : b + 1 < w2.heap.size := by omega
  have HB02 : Hid (Below w0.heap.size w0 w2) := by have h1 := HR2.out.b; exact HB1.out.trans (h1.mono HB1.out.size)
  have HX2 : Hid (RowIn w2 b 23 .u8 x) := by have h := HT0.out.x; rw [HBZ.out] at h; exact h.below HB02.out (by omega)
  have HZ2 : Hid (w2.heap[b + 1]? = some (.cells (Array.replicate 16 (Value.int .u8 0)) 23 (0, 0))) := by have h := HT0.out.z; rw [HBZ.out] at h; exact (HB02.out.block _ (by omega)).trans h
  have HB2 : Hid (Below b w w2) := by have h := HT0.out.b; rw [HBZ.out] at h; exact h.trans (HB02.out.mono (by omega))
  have HKK : Hid (KayIn w2) := HK.out.below HB2.out hk0
  have hk2 : 0 < w2.heap.size := by omega
  clear HR2 HB1 HT0 HK
  refine wp_region_held_drew (S := fun w' => True) (by kernel_rfl) trivial (fun hHeld => ?_)
  refine wpAnyH_take (i := 1) (oi := _) (v := ?v1n5) rfl (by kernel_rfl) (by kernel_rfl) (by kernel_rfl) (fun _ _ _ h => h) (Or.inl ⟨by rfl, ?hy1n5⟩) (by assumption) ?rest1n5
  case hy1n5 =>
    intro w' hSw
    go_simp
    try with_reducible rfl
  try simp only [Act.put, List.getElem_toArray, List.getElem_cons_succ, List.getElem_cons_zero, List.setIfInBounds_toArray, List.set_cons_zero, List.set_cons_succ]
  refine wpAnyH_take (i := 2) (oi := _) (v := ?v2n6) rfl (by kernel_rfl) (by kernel_rfl) (by kernel_rfl) (fun _ _ _ h => h) (Or.inl ⟨by rfl, ?hy2n6⟩) (by assumption) ?rest2n6
  case hy2n6 =>
    intro w' hSw
    go_simp
    try with_reducible rfl
  try simp only [Act.put, List.getElem_toArray, List.getElem_cons_succ, List.getElem_cons_zero, List.setIfInBounds_toArray, List.set_cons_zero, List.set_cons_succ]
  refine wpAnyH_take (i := 3) (oi := _) (v := ?v3n7) rfl (by kernel_rfl) (by kernel_rfl) (by kernel_rfl) (fun _ _ _ h => h) (Or.inl ⟨by rfl, ?hy3n7⟩) (by assumption) ?rest3n7
  case hy3n7 =>
    intro w' hSw
    go_simp
    try with_reducible rfl
  try simp only [Act.put, List.getElem_toArray, List.getElem_cons_succ, List.getElem_cons_zero, List.setIfInBounds_toArray, List.set_cons_zero, List.set_cons_succ]
  refine wpAnyH_take (i := 4) (oi := _) (v := ?v4n8) rfl (by kernel_rfl) (by kernel_rfl) (by kernel_rfl) (fun _ _ _ h => h) (Or.inl ⟨by rfl, ?hy4n8⟩) (by assumption) ?rest4n8
  case hy4n8 =>
    intro w' hSw
    go_simp
    try with_reducible rfl
  try simp only [Act.put, List.getElem_toArray, List.getElem_cons_succ, List.getElem_cons_zero, List.setIfInBounds_toArray, List.set_cons_zero, List.set_cons_succ]
  refine wpAnyH_take (i := 5) (oi := _) (v := ?v5n9) rfl (by kernel_rfl) (by kernel_rfl) (by kernel_rfl) (fun _ _ _ h => h) (Or.inl ⟨by rfl, ?hy5n9⟩) (by assumption) ?rest5n9
  case hy5n9 =>
    intro w' hSw
    go_simp
    try with_reducible rfl
  try simp only [Act.put, List.getElem_toArray, List.getElem_cons_succ, List.getElem_cons_zero, List.setIfInBounds_toArray, List.set_cons_zero, List.set_cons_succ]
  refine wpAnyH_take (i := 6) (oi := _) (v := ?v6n10) rfl (by kernel_rfl) (by kernel_rfl) (by kernel_rfl) (fun _ _ _ h => h) (Or.inl ⟨by rfl, ?hy6n10⟩) (by assumption) ?rest6n10
  case hy6n10 =>
    intro w' hSw
    go_simp
    try with_reducible rfl
  try simp only [Act.put, List.getElem_toArray, List.getElem_cons_succ, List.getElem_cons_zero, List.setIfInBounds_toArray, List.set_cons_zero, List.set_cons_succ]
  refine wpAnyH_ready (rs := [0, 7]) (by kernel_rfl) (by simp) (AllReadyH.cons (o := _) rfl (fun K hK => ?_) (AllReadyH.cons (o := _) rfl (fun K hK => ?_) AllReadyH.nil))
  · have HO := Lib.hid (RowB.drew w2 5 [4])
    go_simp
    generalize hw : World.drew (World.alloc w2 _) = w3
    have HOw3 : Hid (RowB w2 5 [4] w3) := by rw [← hw]; exact HO.out
    clear hw HO
    refine hK.out _ _ trivial (fun hHeld => ?_)
    clear hK K
    try simp only [Act.put, List.getElem_toArray, List.getElem_cons_succ, List.getElem_cons_zero, List.setIfInBounds_toArray, List.set_cons_zero, List.set_cons_succ]
    refine wpAnyH_ready (rs := [7]) (by kernel_rfl) (by simp) (AllReadyH.cons (o := _) rfl (fun K hK => ?_) AllReadyH.nil)
    have HO := Lib.hid (RowB.new w3 5 [c % 256, p % 256])
    go_simp
    generalize hw : World.alloc w3 _ = w4
    have HOw4 : Hid (RowB w3 5 [c % 256, p % 256] w4) := by rw [← hw]; exact HO.out
    clear hw HO
    refine hK.out _ _ trivial (fun hHeld => ?_)
    clear hK K
    try simp only [Act.put, List.getElem_toArray, List.getElem_cons_succ, List.getElem_cons_zero, List.setIfInBounds_toArray, List.set_cons_zero, List.set_cons_succ]
    have hs3 := HOw3.out.s
    have hs4 := HOw4.out.s
    have HB4 : Hid (Below w2.heap.size w2 w4) := HOw3.out.b.trans (HOw4.out.b.mono (by omega))
    have HCH := Lib.hid (show Calls _ _ _ _ (fun e w' => e = .returned (.agg (hvA (stepB x leaf c p))) ∧ Below w4.heap.size w4 w') from four_half 4 x [lb1 leaf, lb0 leaf] [c % 256, p % 256] 2 w4 (w2.heap.size) b q (w3.heap.size) (HOw3.out.r.below HOw4.out.b (by have := HOw3.out.s; omega)) (HX2.out.below HB4.out hb2) (HQ2.out.below HB4.out hq2) HOw4.out.r (by omega) (by omega) (by omega) (by omega) HS.out (by decide) (two_byt _ _) (two_byt _ _) rfl (HKK.out.below HB4.out hk2) (by omega))
    clear hs3 hs4
    refine wpAnyH_ready (rs := [8]) (by kernel_rfl) (by simp) (AllReadyH.cons (o := _) rfl (fun K hK => ?_) AllReadyH.nil)
    go_simp
    refine hK.out _ _ trivial (fun hHeld => ?_)
    clear hK K
    try simp only [Act.put, List.getElem_toArray, List.getElem_cons_succ, List.getElem_cons_zero, List.setIfInBounds_toArray, List.set_cons_zero, List.set_cons_succ]
    refine wpAnyH_ready (rs := [9]) (by kernel_rfl) (by simp) (AllReadyH.cons (o := _) rfl (fun K hK => ?_) AllReadyH.nil)
    go_simp
    with_reducible refine HCH.out.mono ?_
    rintro e w6 ⟨rfl, hb6⟩
    have HB6 : Hid (Below w2.heap.size w2 w6) := HB4.out.trans (hb6.mono HB4.out.size)
    have HZ6 : Hid (w6.heap[b + 1]? = some (.cells (Array.replicate 16 (Value.int .u8 0)) 23 (0, 0))) := (HB6.out.block _ hz2).trans HZ2.out
    clear hb6
    go_wp2_with fail
    refine hK.out _ _ trivial (fun hHeld => ?_)
    clear hK K
    try simp only [Act.put, List.getElem_toArray, List.getElem_cons_succ, List.getElem_cons_zero, List.setIfInBounds_toArray, List.set_cons_zero, List.set_cons_succ]
    refine wpAnyH_ready (rs := [10]) (by kernel_rfl) (by simp) (AllReadyH.cons (o := _) rfl (fun K hK => ?_) AllReadyH.nil)
    rw [if_pos (by rfl)]
    refine wp_store_row 23 _ _ rfl (b + 1) _ rfl rfl 23 _ HZ6.out (info_h (stepB_H16 _ _ _ _)) (size_h (stepB_H16 _ _ _ _)) (one_h _) ?_
    refine hK.out _ _ trivial (fun hHeld => ?_)
    clear hK K
    try simp only [Act.put, List.getElem_toArray, List.getElem_cons_succ, List.getElem_cons_zero, List.setIfInBounds_toArray, List.set_cons_zero, List.set_cons_succ]
    refine wpAnyH_done (by kernel_rfl) ?_ _
    go_wp2_with fail
    exact bodyPost_ret (results_cell_row (P := Tryd.prog) rfl _ _ (b + 1) 23 _ (0, 0) _ rfl (setRow_heap _ _ _ _ _ _ HZ6.out) Tryd.underlying23 rfl (info_h (stepB_H16 _ _ _ _))) rfl ⟨rfl, by rw [HBZ.out]; exact below_setRow (HB2.out.trans (HB6.out.mono (by omega))) (by omega) _⟩
  · have HO := Lib.hid (RowB.drew w2 5 [c % 256, p % 256])
    go_simp
    generalize hw : World.drew (World.alloc w2 _) = w3
    have HOw3 : Hid (RowB w2 5 [c % 256, p % 256] w3) := by rw [← hw]; exact HO.out
    clear hw HO
    refine hK.out _ _ trivial (fun hHeld => ?_)
    clear hK K
    try simp only [Act.put, List.getElem_toArray, List.getElem_cons_succ, List.getElem_cons_zero, List.setIfInBounds_toArray, List.set_cons_zero, List.set_cons_succ]
    refine wpAnyH_ready (rs := [0]) (by kernel_rfl) (by simp) (AllReadyH.cons (o := _) rfl (fun K hK => ?_) AllReadyH.nil)
    have HO := Lib.hid (RowB.new w3 5 [4])
    go_simp
    generalize hw : World.alloc w3 _ = w4
    have HOw4 : Hid (RowB w3 5 [4] w4) := by rw [← hw]; exact HO.out
    clear hw HO
    refine hK.out _ _ trivial (fun hHeld => ?_)
    clear hK K
    try simp only [Act.put, List.getElem_toArray, List.getElem_cons_succ, List.getElem_cons_zero, List.setIfInBounds_toArray, List.set_cons_zero, List.set_cons_succ]
    have hs3 := HOw3.out.s
    have hs4 := HOw4.out.s
    have HB4 : Hid (Below w2.heap.size w2 w4) := HOw3.out.b.trans (HOw4.out.b.mono (by omega))
    have HCH := Lib.hid (show Calls _ _ _ _ (fun e w' => e = .returned (.agg (hvA (stepB x leaf c p))) ∧ Below w4.heap.size w4 w') from four_half 4 x [lb1 leaf, lb0 leaf] [c % 256, p % 256] 2 w4 (w3.heap.size) b q (w2.heap.size) HOw4.out.r (HX2.out.below HB4.out hb2) (HQ2.out.below HB4.out hq2) (HOw3.out.r.below HOw4.out.b (by have := HOw3.out.s; omega)) (by omega) (by omega) (by omega) (by omega) HS.out (by decide) (two_byt _ _) (two_byt _ _) rfl (HKK.out.below HB4.out hk2) (by omega))
    clear hs3 hs4
    refine wpAnyH_ready (rs := [8]) (by kernel_rfl) (by simp) (AllReadyH.cons (o := _) rfl (fun K hK => ?_) AllReadyH.nil)
    go_simp
    refine hK.out _ _ trivial (fun hHeld => ?_)
    clear hK K
    try simp only [Act.put, List.getElem_toArray, List.getElem_cons_succ, List.getElem_cons_zero, List.setIfInBounds_toArray, List.set_cons_zero, List.set_cons_succ]
    refine wpAnyH_ready (rs := [9]) (by kernel_rfl) (by simp) (AllReadyH.cons (o := _) rfl (fun K hK => ?_) AllReadyH.nil)
    go_simp
    with_reducible refine HCH.out.mono ?_
    rintro e w6 ⟨rfl, hb6⟩
    have HB6 : Hid (Below w2.heap.size w2 w6) := HB4.out.trans (hb6.mono HB4.out.size)
    have HZ6 : Hid (w6.heap[b + 1]? = some (.cells (Array.replicate 16 (Value.int .u8 0)) 23 (0, 0))) := (HB6.out.block _ hz2).trans HZ2.out
    clear hb6
    go_wp2_with fail
    refine hK.out _ _ trivial (fun hHeld => ?_)
    clear hK K
    try simp only [Act.put, List.getElem_toArray, List.getElem_cons_succ, List.getElem_cons_zero, List.setIfInBounds_toArray, List.set_cons_zero, List.set_cons_succ]
    refine wpAnyH_ready (rs := [10]) (by kernel_rfl) (by simp) (AllReadyH.cons (o := _) rfl (fun K hK => ?_) AllReadyH.nil)
    rw [if_pos (by rfl)]
    refine wp_store_row 23 _ _ rfl (b + 1) _ rfl rfl 23 _ HZ6.out (info_h (stepB_H16 _ _ _ _)) (size_h (stepB_H16 _ _ _ _)) (one_h _) ?_
    refine hK.out _ _ trivial (fun hHeld => ?_)
    clear hK K
    try simp only [Act.put, List.getElem_toArray, List.getElem_cons_succ, List.getElem_cons_zero, List.setIfInBounds_toArray, List.set_cons_zero, List.set_cons_succ]
    refine wpAnyH_done (by kernel_rfl) ?_ _
    go_wp2_with fail
    exact bodyPost_ret (results_cell_row (P := Tryd.prog) rfl _ _ (b + 1) 23 _ (0, 0) _ rfl (setRow_heap _ _ _ _ _ _ HZ6.out) Tryd.underlying23 rfl (info_h (stepB_H16 _ _ _ _))) rfl ⟨rfl, by rw [HBZ.out]; exact below_setRow (HB2.out.trans (HB6.out.mono (by omega))) (by omega) _⟩
end Go.Proofs.YtkeieacmboidoaaDoor
