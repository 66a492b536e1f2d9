/-
  One-time signatures: halves as lists of bytes; leafBytes; Half of parts that lie in memory (condition: the table of constants reads as it is laid).
-/
import Derived.Test.YtcligodahogpkaaGreatDoorZip
import Derived.Test.YtcligodahogpkaaGreatDoorGn
import Derived.Test.YtcligodahogpkaaGreatDoorGh
set_option maxRecDepth 100000
set_option maxHeartbeats 8000000
namespace Go.Proofs.YtcligodahogpkaaGreatDoor
open Go.RowKit Go.Proofs.YtcligodahogpkaaGreatDoor.One
def H16 (l : List Int) : Prop := l.length = 16 ∧ Byt l
def hfB (l : List Int) : List Int := (aT (sha l).list).take 16
theorem jB (l : List Int) : H16 (hfB l) := ⟨by simp [hfB, aR, St.list_length], (kF _).take 16⟩
def hvA (h : List Int) : Array Value := (h.map (Value.int .u8)).toArray
theorem aN {h : List Int} (hh : H16 h) : (Tryz.prog.info? 54).map (·.size) = some (hvA h).size := by
 rw [show (hvA h).size = 16 by simp [hvA, hh.1]]; exact Tryz.info30h
theorem dH {h : List Int} (hh : H16 h) : (Array.replicate 16 (Value.int .u8 0)).size = (hvA h).size := by simp [hvA, hh.1]
theorem dG (h : List Int) : (hvA h).all (·.oneCell') = true := bE _ _
def lb1 (leaf : Int) : Int := leaf / 256 % 256
def lb0 (leaf : Int) : Int := leaf % 256
theorem BZ (x : Int) : Byt [x % 256] := fun y hy => by rw [List.mem_singleton.1 hy]; omega
theorem kU (x y : Int) : Byt [x % 256, y % 256] := fun z hz => by
 simp only [List.mem_cons, List.not_mem_nil, or_false] at hz
 rcases hz with rfl | rfl <;> omega
theorem OL (ps : List Part) (w : World) (hs : ∀ q ∈ ps, Src w w.heap.size q.sp q.n q.cap q.b) (hk : KayIn w) (hk0 : 1 < w.heap.size) (hbd : (cat ps).length ≤ 1099511627776) (hnp : ps.length ≤ 1099511627776) :
 Calls Tryz.prog 132 #[.slice (some ⟨w.heap.size, 0, none⟩) ps.length ps.length] (w.alloc (.cells (ps.map Part.val).toArray 22)) fun e w' => e = .returned (.agg (hvA (hfB (cat ps)))) ∧ Below w.heap.size w w' := by
 have hba := aB w (.cells (ps.map Part.val).toArray 22)
 have hsa := aK w (.cells (ps.map Part.val).toArray 22)
 have hga := heap_alloc_new w (.cells (ps.map Part.val).toArray 22)
 generalize World.alloc w _ = w6 at *
 have hp : PartsIn w6 w6.heap.size (some ⟨w.heap.size, 0, none⟩) ps.length ps := by
  refine kX (ps := ps) hga (by omega) ?_
  intro q hq
  exact ((hs q hq).below hba (Nat.le_refl _)).more (by omega)
 refine (yP _ ps.length ps.length ps w6 hp (hk.below hba hk0) (by omega) hbd hnp).mono fun e w' ⟨he, hb⟩ => ⟨he, hba.trans (hb.mono hba.size)⟩
theorem iZ (leaf : Int) (w : World) :
 Calls Tryz.prog 163 #[.int .i64 leaf] w fun e w' => e = .returned (.agg #[.int .u8 (lb1 leaf), .int .u8 (lb0 leaf)]) ∧ Below w.heap.size w w' := by
 go_enter Tryz.func163, Tryz.ntmps163
 go_wp2_with fail
 exact bodyPost_ret (results_cell_row (P := Tryz.prog) rfl _ _ w.heap.size 190 _ (0, 0) _ rfl (heap_alloc_new w _) Tryz.underlying190 rfl (by kernel_rfl)) rfl ⟨rfl, aB _ _⟩
def sM (seed : List Int) (leaf c : Int) : List Int := hfB ([3] ++ seed ++ [lb1 leaf, lb0 leaf] ++ [c % 256])
def iL (x : List Int) (leaf c p : Int) : List Int := hfB ([4] ++ x ++ [lb1 leaf, lb0 leaf] ++ [c % 256, p % 256])
theorem dL (x : List Int) (leaf c : Int) : H16 (sM x leaf c) := jB _
theorem dV (x : List Int) (leaf c p : Int) : H16 (iL x leaf c p) := jB _
structure Two (w : World) (x : List Int) (w0 : World) : Prop where
 x : RowIn w0 w.heap.size 54 .u8 x
 z : w0.heap[w.heap.size + 1]? = some (.cells (Array.replicate 16 (Value.int .u8 0)) 54 (0, 0))
 b : Below w.heap.size w w0
 s : w0.heap.size = w.heap.size + 2
theorem Two.new (w : World) (x : List Int) : Two w x ((w.alloc (.cells (hvA x) 54)).alloc (.cells (Array.replicate 16 (Value.int .u8 0)) 54)) :=
 ⟨(heap_alloc_old _ _ (by simp)).trans (heap_alloc_new w _), by have h := heap_alloc_new (w.alloc (.cells (hvA x) 54)) (.cells (Array.replicate 16 (Value.int .u8 0)) 54); rw [World.size_alloc] at h; exact h, ((Below.refl _ _).alloc (Nat.le_refl _) _).alloc (by simp) _, by simp⟩
structure RowB (w : World) (t : TypeId) (l : List Int) (w' : World) : Prop where
 r : RowIn w' w.heap.size t .u8 l
 b : Below w.heap.size w w'
 s : w'.heap.size = w.heap.size + 1
theorem RowB.new (w : World) (t : TypeId) (l : List Int) : RowB w t l (w.alloc (.cells (l.map (Value.int .u8)).toArray t)) := ⟨heap_alloc_new w _, aB _ _, aK _ _⟩
theorem RowB.drew (w : World) (t : TypeId) (l : List Int) : RowB w t l (World.drew (w.alloc (.cells (l.map (Value.int .u8)).toArray t))) := ⟨heap_alloc_new w _, (aB _ _).drew, aK _ _⟩
theorem lQ (tag : Int) (x t cs : List Int) (n : Nat) (w : World) (ba bh bq bc : Nat) (h1 : RowIn w ba 5 .u8 [tag]) (h2 : RowIn w bh 54 .u8 x) (h3 : RowIn w bq 190 .u8 t) (h4 : RowIn w bc 5 .u8 cs)
 (l1 : ba < w.heap.size) (l2 : bh < w.heap.size) (l3 : bq < w.heap.size) (l4 : bc < w.heap.size) (hx : H16 x) (ht : 0 ≤ tag ∧ tag < 256) (hq : Byt [t.getD 0 0, t.getD 1 0]) (hc : Byt cs) (hn : cs.length = n) (hk : KayIn w) (hk0 : 1 < w.heap.size) (ht2 : t = [t.getD 0 0, t.getD 1 0] := by rfl) (hn2 : n ≤ 100 := by decide) :
 Calls Tryz.prog 132 #[.slice (some ⟨w.heap.size, 0, none⟩) 4 4] (w.alloc (.cells #[.slice (some ⟨ba, 0, none⟩) 1 1, .slice (some ⟨bh, 0, none⟩) 16 16, .slice (some ⟨bq, 0, none⟩) 2 2, .slice (some ⟨bc, 0, none⟩) n n] 22)) fun e w' => e = .returned (.agg (hvA (hfB ([tag] ++ x ++ t ++ cs)))) ∧ Below w.heap.size w w' := by
 subst hn
 have hl2 : t.length = 2 := by rw [ht2]; rfl
 have hb2 : Byt t := by rw [ht2]; exact hq
 have h := OL [⟨some ⟨ba, 0, none⟩, 1, 1, [tag]⟩, ⟨some ⟨bh, 0, none⟩, 16, 16, x⟩, ⟨some ⟨bq, 0, none⟩, 2, 2, t⟩, ⟨some ⟨bc, 0, none⟩, cs.length, cs.length, cs⟩] w (by
  intro q hq
  simp only [List.mem_cons, List.not_mem_nil, or_false] at hq
  rcases hq with rfl | rfl | rfl | rfl
  ·exact bZ (L := [tag]) h1 (fun y hy => by rw [List.mem_singleton.1 hy]; exact ht) l1 (by simp)
  ·have := bZ (cap := 16) h2 hx.2 l2 (by rw [hx.1]; exact Nat.le_refl _); rw [hx.1] at this; exact this
  ·have := bZ (cap := 2) h3 hb2 l3 (by rw [hl2]; exact Nat.le_refl _); rw [hl2] at this; exact this
  ·exact bZ h4 hc l4 (Nat.le_refl _)) hk hk0 (by simp only [cat, List.map_cons, List.map_nil, List.flatten_cons, List.flatten_nil, List.length_append, List.length_cons, List.length_nil]; rw [hx.1, hl2]; omega) (show 4 ≤ 1099511627776 by omega)
 have e : cat [⟨some ⟨ba, 0, none⟩, 1, 1, [tag]⟩, ⟨some ⟨bh, 0, none⟩, 16, 16, x⟩, ⟨some ⟨bq, 0, none⟩, 2, 2, t⟩, ⟨some ⟨bc, 0, none⟩, cs.length, cs.length, cs⟩] = [tag] ++ x ++ t ++ cs := by simp [cat]
 rw [e] at h
 exact h
theorem qG (x : List Int) (leaf c : Int) (w : World) (hs : H16 x) (hk : KayIn w) (hk0 : 1 < w.heap.size) :
 Calls Tryz.prog 139 #[.agg (hvA x), .int .i64 leaf, .int .i64 c] w fun e w' => e = .returned (.agg (hvA (sM x leaf c))) ∧ Below w.heap.size w w' := by
 have HK := zh hk; have HS := zh hs; clear hk hs
 have HT := zh (Two.new w x)
 go_enter Tryz.func139, Tryz.ntmps139
 go_wp2_with fail
 generalize hw0 : World.alloc (World.alloc w _) _ = w0
 have HT0 : Hid (Two w x w0) := by rw [← hw0]; exact HT.out
 clear hw0 HT
 generalize hb : w.heap.size = b at *
 have HBZ := zh hb; clear hb
 refine (iZ leaf w0).mono ?_
 rintro e w1 ⟨rfl, hb1⟩
 have HB1 := zh hb1; clear hb1
 have hz1 : b + 2 ≤ w1.heap.size := by have h1 := HB1.out.size; have h2 := HT0.out.s; have h3 := HBZ.out; omega
 have hz0 : b + 2 ≤ w0.heap.size := by have h2 := HT0.out.s; have h3 := HBZ.out; omega
 have HN := zh (RowB.new w1 190 [lb1 leaf, lb0 leaf])
 go_wp2_with fail
 generalize hw2 : World.alloc w1 _ = w2
 have HR2 : Hid (RowB w1 190 [lb1 leaf, lb0 leaf] w2) := by rw [← hw2]; exact HN.out
 clear hw2 HN
 generalize hq : w1.heap.size = q at *
 have HQQ := zh hq; clear hq
 have HQ2 : Hid (RowIn w2 q 190 .u8 [lb1 leaf, lb0 leaf]) := by rw [← HQQ.out]; exact HR2.out.r
 have hq2 : q < w2.heap.size := by have h1 := HR2.out.s; have h2 := HQQ.out; omega
 have hb2 : b < w2.heap.size := by omega
 have hz2 : b + 1 < w2.heap.size := by omega
 have wZ : Hid (Below w0.heap.size w0 w2) := by have h1 := HR2.out.b; exact HB1.out.trans (h1.mono HB1.out.size)
 have HX2 : Hid (RowIn w2 b 54 .u8 x) := by have h := HT0.out.x; rw [HBZ.out] at h; exact h.below wZ.out (by omega)
 have HZ2 : Hid (w2.heap[b + 1]? = some (.cells (Array.replicate 16 (Value.int .u8 0)) 54 (0, 0))) := by have h := HT0.out.z; rw [HBZ.out] at h; exact (wZ.out.block _ (by omega)).trans h
 have HB2 : Hid (Below b w w2) := by have h := HT0.out.b; rw [HBZ.out] at h; exact h.trans (wZ.out.mono (by omega))
 have HKK : Hid (KayIn w2) := HK.out.below HB2.out hk0
 have hk2 : 1 < w2.heap.size := by omega
 clear HR2 HB1 HT0 HK
 refine wp_region_held_drew (S := fun w' => True) (by kernel_rfl) trivial (fun hHeld => ?_)
 refine zv 1 rfl ?_
 refine zv 2 rfl ?_
 refine zv 3 rfl ?_
 refine zv 4 rfl ?_
 refine zs 0 5 rfl (fun K hK => ?_) rfl (fun K hK => ?_)
 ·have HO := zh (RowB.drew w2 5 [3])
  go_simp
  generalize hw : World.drew (World.alloc w2 _) = w3
  have sJ : Hid (RowB w2 5 [3] w3) := by rw [← hw]; exact HO.out
  clear hw HO
  refine hK.out _ _ trivial fun _ => ?_; clear hK K
  try simp only [Act.put, zA, zB, zC, zD, zE, zF]
  refine zr 5 rfl (fun K hK => ?_)
  have HO := zh (RowB.new w3 5 [c % 256])
  go_simp
  generalize hw : World.alloc w3 _ = w4
  have sI : Hid (RowB w3 5 [c % 256] w4) := by rw [← hw]; exact HO.out
  clear hw HO
  refine hK.out _ _ trivial fun _ => ?_; clear hK K
  try simp only [Act.put, zA, zB, zC, zD, zE, zF]
  have hs3 := sJ.out.s
  have hs4 := sI.out.s
  have HB4 : Hid (Below w2.heap.size w2 w4) := sJ.out.b.trans (sI.out.b.mono (by omega))
  have HCH := zh (show Calls _ _ _ _ (fun e w' => e = .returned (.agg (hvA (sM x leaf c))) ∧ Below w4.heap.size w4 w') from lQ 3 x [lb1 leaf, lb0 leaf] [c % 256] 1 w4 (w2.heap.size) b q (w3.heap.size) (sJ.out.r.below sI.out.b (by have := sJ.out.s; omega)) (HX2.out.below HB4.out hb2) (HQ2.out.below HB4.out hq2) sI.out.r (by omega) (by omega) (by omega) (by omega) HS.out (by decide) (kU _ _) (BZ _) rfl (HKK.out.below HB4.out hk2) (by omega))
  clear hs3 hs4
  refine zr 6 rfl (fun K hK => ?_)
  go_simp
  refine hK.out _ _ trivial fun _ => ?_; clear hK K
  try simp only [Act.put, zA, zB, zC, zD, zE, zF]
  refine zr 7 rfl (fun K hK => ?_)
  go_simp
  with_reducible refine HCH.out.mono ?_
  rintro e w6 ⟨rfl, hb6⟩
  have HB6 : Hid (Below w2.heap.size w2 w6) := HB4.out.trans (hb6.mono HB4.out.size)
  have HZ6 : Hid (w6.heap[b + 1]? = some (.cells (Array.replicate 16 (Value.int .u8 0)) 54 (0, 0))) := (HB6.out.block _ hz2).trans HZ2.out
  clear hb6
  go_wp2_with fail
  refine hK.out _ _ trivial fun _ => ?_; clear hK K
  try simp only [Act.put, zA, zB, zC, zD, zE, zF]
  refine zr 8 rfl (fun K hK => ?_)
  rw [if_pos (by rfl)]
  refine wp_store_row 54 _ _ rfl (b + 1) _ rfl rfl 54 _ HZ6.out (aN (dL _ _ _)) (dH (dL _ _ _)) (dG _) ?_
  refine hK.out _ _ trivial fun _ => ?_; clear hK K
  try simp only [Act.put, zA, zB, zC, zD, zE, zF]
  refine zd ?_ _
  go_wp2_with fail
  exact bodyPost_ret (results_cell_row (P := Tryz.prog) rfl _ _ (b + 1) 54 _ (0, 0) _ rfl (setRow_heap _ _ _ _ _ _ HZ6.out) Tryz.underlying54 rfl (aN (dL _ _ _))) rfl ⟨rfl, by rw [HBZ.out]; exact below_setRow (HB2.out.trans (HB6.out.mono (by omega))) (by omega) _⟩
 ·have HO := zh (RowB.drew w2 5 [c % 256])
  go_simp
  generalize hw : World.drew (World.alloc w2 _) = w3
  have sJ : Hid (RowB w2 5 [c % 256] w3) := by rw [← hw]; exact HO.out
  clear hw HO
  refine hK.out _ _ trivial fun _ => ?_; clear hK K
  try simp only [Act.put, zA, zB, zC, zD, zE, zF]
  refine zr 0 rfl (fun K hK => ?_)
  have HO := zh (RowB.new w3 5 [3])
  go_simp
  generalize hw : World.alloc w3 _ = w4
  have sI : Hid (RowB w3 5 [3] w4) := by rw [← hw]; exact HO.out
  clear hw HO
  refine hK.out _ _ trivial fun _ => ?_; clear hK K
  try simp only [Act.put, zA, zB, zC, zD, zE, zF]
  have hs3 := sJ.out.s
  have hs4 := sI.out.s
  have HB4 : Hid (Below w2.heap.size w2 w4) := sJ.out.b.trans (sI.out.b.mono (by omega))
  have HCH := zh (show Calls _ _ _ _ (fun e w' => e = .returned (.agg (hvA (sM x leaf c))) ∧ Below w4.heap.size w4 w') from lQ 3 x [lb1 leaf, lb0 leaf] [c % 256] 1 w4 (w3.heap.size) b q (w2.heap.size) sI.out.r (HX2.out.below HB4.out hb2) (HQ2.out.below HB4.out hq2) (sJ.out.r.below sI.out.b (by have := sJ.out.s; omega)) (by omega) (by omega) (by omega) (by omega) HS.out (by decide) (kU _ _) (BZ _) rfl (HKK.out.below HB4.out hk2) (by omega))
  clear hs3 hs4
  refine zr 6 rfl (fun K hK => ?_)
  go_simp
  refine hK.out _ _ trivial fun _ => ?_; clear hK K
  try simp only [Act.put, zA, zB, zC, zD, zE, zF]
  refine zr 7 rfl (fun K hK => ?_)
  go_simp
  with_reducible refine HCH.out.mono ?_
  rintro e w6 ⟨rfl, hb6⟩
  have HB6 : Hid (Below w2.heap.size w2 w6) := HB4.out.trans (hb6.mono HB4.out.size)
  have HZ6 : Hid (w6.heap[b + 1]? = some (.cells (Array.replicate 16 (Value.int .u8 0)) 54 (0, 0))) := (HB6.out.block _ hz2).trans HZ2.out
  clear hb6
  go_wp2_with fail
  refine hK.out _ _ trivial fun _ => ?_; clear hK K
  try simp only [Act.put, zA, zB, zC, zD, zE, zF]
  refine zr 8 rfl (fun K hK => ?_)
  rw [if_pos (by rfl)]
  refine wp_store_row 54 _ _ rfl (b + 1) _ rfl rfl 54 _ HZ6.out (aN (dL _ _ _)) (dH (dL _ _ _)) (dG _) ?_
  refine hK.out _ _ trivial fun _ => ?_; clear hK K
  try simp only [Act.put, zA, zB, zC, zD, zE, zF]
  refine zd ?_ _
  go_wp2_with fail
  exact bodyPost_ret (results_cell_row (P := Tryz.prog) rfl _ _ (b + 1) 54 _ (0, 0) _ rfl (setRow_heap _ _ _ _ _ _ HZ6.out) Tryz.underlying54 rfl (aN (dL _ _ _))) rfl ⟨rfl, by rw [HBZ.out]; exact below_setRow (HB2.out.trans (HB6.out.mono (by omega))) (by omega) _⟩
theorem EZ (x : List Int) (leaf c p : Int) (w : World) (hs : H16 x) (hk : KayIn w) (hk0 : 1 < w.heap.size) :
 Calls Tryz.prog 162 #[.agg (hvA x), .int .i64 leaf, .int .i64 c, .int .i64 p] w fun e w' => e = .returned (.agg (hvA (iL x leaf c p))) ∧ Below w.heap.size w w' := by
 have HK := zh hk; have HS := zh hs; clear hk hs
 have HT := zh (Two.new w x)
 go_enter Tryz.func162, Tryz.ntmps162
 go_wp2_with fail
 generalize hw0 : World.alloc (World.alloc w _) _ = w0
 have HT0 : Hid (Two w x w0) := by rw [← hw0]; exact HT.out
 clear hw0 HT
 generalize hb : w.heap.size = b at *
 have HBZ := zh hb; clear hb
 refine (iZ leaf w0).mono ?_
 rintro e w1 ⟨rfl, hb1⟩
 have HB1 := zh hb1; clear hb1
 have hz1 : b + 2 ≤ w1.heap.size := by have h1 := HB1.out.size; have h2 := HT0.out.s; have h3 := HBZ.out; omega
 have hz0 : b + 2 ≤ w0.heap.size := by have h2 := HT0.out.s; have h3 := HBZ.out; omega
 have HN := zh (RowB.new w1 190 [lb1 leaf, lb0 leaf])
 go_wp2_with fail
 generalize hw2 : World.alloc w1 _ = w2
 have HR2 : Hid (RowB w1 190 [lb1 leaf, lb0 leaf] w2) := by rw [← hw2]; exact HN.out
 clear hw2 HN
 generalize hq : w1.heap.size = q at *
 have HQQ := zh hq; clear hq
 have HQ2 : Hid (RowIn w2 q 190 .u8 [lb1 leaf, lb0 leaf]) := by rw [← HQQ.out]; exact HR2.out.r
 have hq2 : q < w2.heap.size := by have h1 := HR2.out.s; have h2 := HQQ.out; omega
 have hb2 : b < w2.heap.size := by omega
 have hz2 : b + 1 < w2.heap.size := by omega
 have wZ : Hid (Below w0.heap.size w0 w2) := by have h1 := HR2.out.b; exact HB1.out.trans (h1.mono HB1.out.size)
 have HX2 : Hid (RowIn w2 b 54 .u8 x) := by have h := HT0.out.x; rw [HBZ.out] at h; exact h.below wZ.out (by omega)
 have HZ2 : Hid (w2.heap[b + 1]? = some (.cells (Array.replicate 16 (Value.int .u8 0)) 54 (0, 0))) := by have h := HT0.out.z; rw [HBZ.out] at h; exact (wZ.out.block _ (by omega)).trans h
 have HB2 : Hid (Below b w w2) := by have h := HT0.out.b; rw [HBZ.out] at h; exact h.trans (wZ.out.mono (by omega))
 have HKK : Hid (KayIn w2) := HK.out.below HB2.out hk0
 have hk2 : 1 < w2.heap.size := by omega
 clear HR2 HB1 HT0 HK
 refine wp_region_held_drew (S := fun w' => True) (by kernel_rfl) trivial (fun hHeld => ?_)
 refine zv 1 rfl ?_
 refine zv 2 rfl ?_
 refine zv 3 rfl ?_
 refine zv 4 rfl ?_
 refine zv 5 rfl ?_
 refine zv 6 rfl ?_
 refine zs 0 7 rfl (fun K hK => ?_) rfl (fun K hK => ?_)
 ·have HO := zh (RowB.drew w2 5 [4])
  go_simp
  generalize hw : World.drew (World.alloc w2 _) = w3
  have sJ : Hid (RowB w2 5 [4] w3) := by rw [← hw]; exact HO.out
  clear hw HO
  refine hK.out _ _ trivial fun _ => ?_; clear hK K
  try simp only [Act.put, zA, zB, zC, zD, zE, zF]
  refine zr 7 rfl (fun K hK => ?_)
  have HO := zh (RowB.new w3 5 [c % 256, p % 256])
  go_simp
  generalize hw : World.alloc w3 _ = w4
  have sI : Hid (RowB w3 5 [c % 256, p % 256] w4) := by rw [← hw]; exact HO.out
  clear hw HO
  refine hK.out _ _ trivial fun _ => ?_; clear hK K
  try simp only [Act.put, zA, zB, zC, zD, zE, zF]
  have hs3 := sJ.out.s
  have hs4 := sI.out.s
  have HB4 : Hid (Below w2.heap.size w2 w4) := sJ.out.b.trans (sI.out.b.mono (by omega))
  have HCH := zh (show Calls _ _ _ _ (fun e w' => e = .returned (.agg (hvA (iL x leaf c p))) ∧ Below w4.heap.size w4 w') from lQ 4 x [lb1 leaf, lb0 leaf] [c % 256, p % 256] 2 w4 (w2.heap.size) b q (w3.heap.size) (sJ.out.r.below sI.out.b (by have := sJ.out.s; omega)) (HX2.out.below HB4.out hb2) (HQ2.out.below HB4.out hq2) sI.out.r (by omega) (by omega) (by omega) (by omega) HS.out (by decide) (kU _ _) (kU _ _) rfl (HKK.out.below HB4.out hk2) (by omega))
  clear hs3 hs4
  refine zr 8 rfl (fun K hK => ?_)
  go_simp
  refine hK.out _ _ trivial fun _ => ?_; clear hK K
  try simp only [Act.put, zA, zB, zC, zD, zE, zF]
  refine zr 9 rfl (fun K hK => ?_)
  go_simp
  with_reducible refine HCH.out.mono ?_
  rintro e w6 ⟨rfl, hb6⟩
  have HB6 : Hid (Below w2.heap.size w2 w6) := HB4.out.trans (hb6.mono HB4.out.size)
  have HZ6 : Hid (w6.heap[b + 1]? = some (.cells (Array.replicate 16 (Value.int .u8 0)) 54 (0, 0))) := (HB6.out.block _ hz2).trans HZ2.out
  clear hb6
  go_wp2_with fail
  refine hK.out _ _ trivial fun _ => ?_; clear hK K
  try simp only [Act.put, zA, zB, zC, zD, zE, zF]
  refine zr 10 rfl (fun K hK => ?_)
  rw [if_pos (by rfl)]
  refine wp_store_row 54 _ _ rfl (b + 1) _ rfl rfl 54 _ HZ6.out (aN (dV _ _ _ _)) (dH (dV _ _ _ _)) (dG _) ?_
  refine hK.out _ _ trivial fun _ => ?_; clear hK K
  try simp only [Act.put, zA, zB, zC, zD, zE, zF]
  refine zd ?_ _
  go_wp2_with fail
  exact bodyPost_ret (results_cell_row (P := Tryz.prog) rfl _ _ (b + 1) 54 _ (0, 0) _ rfl (setRow_heap _ _ _ _ _ _ HZ6.out) Tryz.underlying54 rfl (aN (dV _ _ _ _))) rfl ⟨rfl, by rw [HBZ.out]; exact below_setRow (HB2.out.trans (HB6.out.mono (by omega))) (by omega) _⟩
 ·have HO := zh (RowB.drew w2 5 [c % 256, p % 256])
  go_simp
  generalize hw : World.drew (World.alloc w2 _) = w3
  have sJ : Hid (RowB w2 5 [c % 256, p % 256] w3) := by rw [← hw]; exact HO.out
  clear hw HO
  refine hK.out _ _ trivial fun _ => ?_; clear hK K
  try simp only [Act.put, zA, zB, zC, zD, zE, zF]
  refine zr 0 rfl (fun K hK => ?_)
  have HO := zh (RowB.new w3 5 [4])
  go_simp
  generalize hw : World.alloc w3 _ = w4
  have sI : Hid (RowB w3 5 [4] w4) := by rw [← hw]; exact HO.out
  clear hw HO
  refine hK.out _ _ trivial fun _ => ?_; clear hK K
  try simp only [Act.put, zA, zB, zC, zD, zE, zF]
  have hs3 := sJ.out.s
  have hs4 := sI.out.s
  have HB4 : Hid (Below w2.heap.size w2 w4) := sJ.out.b.trans (sI.out.b.mono (by omega))
  have HCH := zh (show Calls _ _ _ _ (fun e w' => e = .returned (.agg (hvA (iL x leaf c p))) ∧ Below w4.heap.size w4 w') from lQ 4 x [lb1 leaf, lb0 leaf] [c % 256, p % 256] 2 w4 (w3.heap.size) b q (w2.heap.size) sI.out.r (HX2.out.below HB4.out hb2) (HQ2.out.below HB4.out hq2) (sJ.out.r.below sI.out.b (by have := sJ.out.s; omega)) (by omega) (by omega) (by omega) (by omega) HS.out (by decide) (kU _ _) (kU _ _) rfl (HKK.out.below HB4.out hk2) (by omega))
  clear hs3 hs4
  refine zr 8 rfl (fun K hK => ?_)
  go_simp
  refine hK.out _ _ trivial fun _ => ?_; clear hK K
  try simp only [Act.put, zA, zB, zC, zD, zE, zF]
  refine zr 9 rfl (fun K hK => ?_)
  go_simp
  with_reducible refine HCH.out.mono ?_
  rintro e w6 ⟨rfl, hb6⟩
  have HB6 : Hid (Below w2.heap.size w2 w6) := HB4.out.trans (hb6.mono HB4.out.size)
  have HZ6 : Hid (w6.heap[b + 1]? = some (.cells (Array.replicate 16 (Value.int .u8 0)) 54 (0, 0))) := (HB6.out.block _ hz2).trans HZ2.out
  clear hb6
  go_wp2_with fail
  refine hK.out _ _ trivial fun _ => ?_; clear hK K
  try simp only [Act.put, zA, zB, zC, zD, zE, zF]
  refine zr 10 rfl (fun K hK => ?_)
  rw [if_pos (by rfl)]
  refine wp_store_row 54 _ _ rfl (b + 1) _ rfl rfl 54 _ HZ6.out (aN (dV _ _ _ _)) (dH (dV _ _ _ _)) (dG _) ?_
  refine hK.out _ _ trivial fun _ => ?_; clear hK K
  try simp only [Act.put, zA, zB, zC, zD, zE, zF]
  refine zd ?_ _
  go_wp2_with fail
  exact bodyPost_ret (results_cell_row (P := Tryz.prog) rfl _ _ (b + 1) 54 _ (0, 0) _ rfl (setRow_heap _ _ _ _ _ _ HZ6.out) Tryz.underlying54 rfl (aN (dV _ _ _ _))) rfl ⟨rfl, by rw [HBZ.out]; exact below_setRow (HB2.out.trans (HB6.out.mono (by omega))) (by omega) _⟩
theorem wO (L : List Int) (hL : L.length = 32) (k : Nat) (h : k < 16) : (aU 16 (L.take k)).set k (L.getD k 0) = aU 16 (L.take (k + 1)) := by
 have e : L.take (k + 1) = L.take k ++ [L.getD k 0] := by
  rw [List.take_succ_eq_append_getElem (by omega), List.getD_eq_getElem?_getD, List.getElem?_eq_getElem (by omega)]; rfl
 have hl : (L.take k).length = k := by rw [List.length_take]; omega
 have h2 := eP 16 (L.take k) (L.getD k 0) (by rw [hl]; exact h)
 rw [hl] at h2
 rw [e, ← h2]
theorem GT {ps : List Part} (h : ∀ q ∈ ps, Byt q.b) : Byt (cat ps) := fun x hx => by
 unfold cat at hx
 obtain ⟨l, hl, hxl⟩ := List.mem_flatten.1 hx
 obtain ⟨q, hq, rfl⟩ := List.mem_map.1 hl
 exact h q hq x hxl
theorem tI (pa : Option Addr) (np ncap : Nat) (ps : List Part) (w : World) (hp : PartsIn w w.heap.size pa np ps) (hnil : ∀ q ∈ ps, q.sp = none → q.cap = 0) (hbd : (cat ps).length ≤ 1099511627776) (hnp : np ≤ 1099511627776) :
 Calls Tryz.prog 138 #[.slice pa np ncap] w fun e w' => e = .returned (.agg (hvA (hfB (cat ps)))) ∧ Below w.heap.size w w' := by
 have HP := zh hp; have uY := zh hnil; clear hp hnil
 have HN := zh (heap_alloc_new w (.cells (Array.replicate 16 (Value.int .u8 0)) 54))
 have HB := zh (aB w (.cells (Array.replicate 16 (Value.int .u8 0)) 54))
 have HS := zh (aK w (.cells (Array.replicate 16 (Value.int .u8 0)) 54))
 go_enter Tryz.func138, Tryz.ntmps138
 go_wp2_with fail
 generalize hw0 : World.alloc w _ = w0
 have HZ0 : Hid (w0.heap[w.heap.size]? = some (.cells (Array.replicate 16 (Value.int .u8 0)) 54 (0, 0))) := by rw [← hw0]; exact HN.out
 have HB0 : Hid (Below w.heap.size w w0) := by rw [← hw0]; exact HB.out
 have HS0 : Hid (w0.heap.size = w.heap.size + 1) := by rw [← hw0]; exact HS.out
 clear hw0 HN HB HS
 generalize hb : w.heap.size = b at *
 have HBZ := zh hb; clear hb
 have hs0 : b + 1 ≤ w0.heap.size := Nat.le_of_eq HS0.out.symm
 go_loopw [3, 4] (fun v i wr => ∃ k : Nat, k ≤ np ∧ i = .int .i64 k ∧ Hid (wr.ownsRow (b + 1) 5 1 v (cat (ps.take k)).length ((cat (ps.take k)).map (Value.int .u8))) ∧ Below (b + 1) w0 wr) (fun _ i _ => np - (intOf i).toNat)
 case atStart => exact ⟨0, by omega, rfl, World.ownsRow_nil _ _ _ _, Below.refl _ _⟩
 case round =>
  rename_i v _
  obtain ⟨k, hkn, rfl, hown, hber⟩ := hrel
  by_cases hlt : k < np
  ·have hk2 : k < ps.length := by have := HP.out.len; omega
   have hpl := HP.out.len
   obtain ⟨pb, po, rfl, hpb, hcell⟩ := HP.out.cells (by omega)
   have hbelw : Below b w wr := HB0.out.trans (hber.mono (by omega))
   have ck : wr.cell? ⟨pb, po + k, none⟩ = some (.slice ps[k].sp ps[k].n ps[k].cap) := (hbelw.cell (p := ⟨pb, po + k, none⟩) hpb).trans (hcell k hk2)
   have hsr : Src wr (b + 1) ps[k].sp ps[k].n ps[k].cap ps[k].b := ((HP.out.srcs _ (List.getElem_mem hk2)).below hbelw (Nat.le_refl _)).more (by omega)
   have HCS := zh (lU ps k hk2)
   have HLE := zh (pI ps (k + 1))
   have HN := zh (uY.out _ (List.getElem_mem hk2))
   have hsz := hber.size
   have hszb : b + 1 ≤ wr.heap.size := by omega
   clear hcell hbelw hpl
   generalize ps[k].sp = sp at *
   generalize ps[k].n = n at *
   generalize ps[k].cap = cap at *
   generalize ps[k].b = bb at *
   obtain rfl := hsr.len
   have HSR := zh hsr; clear hsr
   have hd : decide ((k : Int) < (np : Int)) = true := by simp; omega
   have p1 : (0 : Int) ≤ (k : Int) := by omega
   have p2 : (k : Int) < (np : Int) := by omega
   have hadd : (cat (ps.take k)).length + bb.length ≤ 1099511627776 := by
    have h1 := HLE.out; rw [HCS.out, List.length_append] at h1; omega
   go_wp2_with (refine eE rfl (.tmp 14) (.tmp 18) 22 5 rfl Tryz.underlying22 Tryz.info5a (b + 1) _ (cat (ps.take k)) rfl hown.out _ _ (b + 1) bb rfl HSR.out HN.out hadd hszb ?_; intro v' w1 hown' hg' _)
   go_roundw
   case rel =>
    exact ⟨k + 1, by omega, by go_num, by rw [HCS.out]; exact hown', hber.grown hg' hszb (bL hown.out)⟩
   case measure => simp [intOf]; omega
  ·obtain rfl : k = np := by omega
   have hall : cat (ps.take k) = cat ps := by rw [List.take_of_length_le (by rw [HP.out.len]; exact Nat.le_refl _)]
   rw [hall] at hown
   obtain ⟨sp, cap, rfl, hsrc, hspn⟩ := gD hown.out (GT fun q hq => (HP.out.srcs q hq).byt)
   have HZr : Hid (wr.heap[b]? = some (.cells (Array.replicate 16 (Value.int .u8 0)) 54 (0, 0))) := (hber.block b (by omega)).trans HZ0.out
   have HBW : Hid (Below b w wr) := HB0.out.trans (hber.mono (by omega))
   have hszb : b + 1 ≤ wr.heap.size := by have := hber.size; omega
   clear hown hall hber HZ0 HB0 HS0 hs0
   have hd : decide ((k : Int) < (k : Int)) = false := by simp
   go_wp2_with fail
   refine (mH sp (cat ps).length cap (cat ps) wr hsrc hspn hbd).mono ?_
   rintro e w2 ⟨rfl, hb2⟩
   have HB2 : Hid (Below wr.heap.size wr w2) := hb2
   clear hb2 hsrc hspn
   have HD0 := zh (heap_alloc_new w2 (.cells (Array.replicate 32 (Value.int .u8 0)) 43))
   have HA1 := zh ((heap_alloc_old (w2.alloc (.cells (dg (cat ps)) 43)) (.cells (Array.replicate 16 (Value.int .u8 0)) 54) (show w2.heap.size < _ by simp)).trans (heap_alloc_new w2 (.cells (dg (cat ps)) 43)))
   have HA2 := zh (heap_alloc_new (w2.alloc (.cells (dg (cat ps)) 43)) (.cells (Array.replicate 16 (Value.int .u8 0)) 54))
   have HAB := zh (((Below.refl w2.heap.size w2).alloc (Nat.le_refl _) (.cells (dg (cat ps)) 43)).alloc (by simp) (.cells (Array.replicate 16 (Value.int .u8 0)) 54))
   have HAS := zh (show ((w2.alloc (.cells (dg (cat ps)) 43)).alloc (.cells (Array.replicate 16 (Value.int .u8 0)) 54)).heap.size = w2.heap.size + 2 by simp)
   go_wp2_with (refine wpList_store_row rfl 43 _ _ rfl w2.heap.size _ rfl rfl 43 _ HD0.out (bP _) (by rw [bY]; rfl) (cZ _) ?_; rw [bW])
   generalize hw3 : World.alloc (World.alloc w2 _) _ = w3
   have HR3 : Hid (RowIn w3 w2.heap.size 43 .u8 (aT (sha (cat ps)).list)) := by rw [← hw3]; exact HA1.out
   have HH3 : Hid (RowIn w3 (w2.heap.size + 1) 54 .u8 (List.replicate 16 0)) := by rw [← hw3]; have h := HA2.out; rw [World.size_alloc] at h; exact h
   have HB3 : Hid (Below w2.heap.size w2 w3) := by rw [← hw3]; exact HAB.out
   have hs3 : w2.heap.size + 2 ≤ w3.heap.size := by rw [← hw3]; exact Nat.le_of_eq HAS.out.symm
   clear hw3 HD0 HA1 HA2 HAB HAS
   have hbw2 : b + 1 ≤ w2.heap.size := by have := HB2.out.size; omega
   have HZ3 : Hid (w3.heap[b]? = some (.cells (Array.replicate 16 (Value.int .u8 0)) 54 (0, 0))) := (HB3.out.block b (by omega)).trans ((HB2.out.block b (by omega)).trans HZr.out)
   have QJ : Hid (Below b w w3) := HBW.out.trans ((HB2.out.mono (by omega)).trans (HB3.out.mono (by omega)))
   clear HB2 HB3 HZr HBW hszb
   generalize hg : w2.heap.size = g at *
   have HL : Hid ((aT (sha (cat ps)).list).length = 32) := by show _ = _; simp [aR, St.list_length]
   have AH : Hid ((aT (sha (cat ps)).list).take 16 = hfB (cat ps)) := rfl
   generalize aT (sha (cat ps)).list = D at *
   clear hg
   go_loopw [7] (fun i wr => ∃ k : Nat, k ≤ 16 ∧ i = .int .i64 k ∧ Hid (RowIn wr (g + 1) 54 .u8 (aU 16 (D.take k))) ∧ Hid (Below (g + 1) w3 wr)) (fun i _ => 16 - (intOf i).toNat)
   case atStart => exact ⟨0, by omega, rfl, HH3.out, Below.refl _ _⟩
   case round =>
    clear HH3
    obtain ⟨k, hk, rfl, HH, HBE⟩ := hrel
    by_cases hlt : k < 16
    ·have c1 : wr.cell? ⟨g, k, none⟩ = some (.int .u8 (D.getD k 0)) := (HR3.out.below HBE.out (by omega)).get k (by have := HL.out; omega)
     have f1 : wr.frozen? ⟨g + 1, k, none⟩ = false := HH.out.free k
     have hfl : (aU 16 (D.take k)).length = 16 := cU _ _ (by rw [List.length_take]; omega)
     have c2 := HH.out.get k (by rw [hfl]; exact hlt)
     have HFS := zh (wO D HL.out k hlt)
     generalize (aU 16 (D.take k)).getD k 0 = old at *
     clear hfl
     generalize D.getD k 0 = x at *
     have hd1 : decide ((k : Int) < 16) = true := by simp; omega
     have p1 : (0 : Int) ≤ (k : Int) := by omega
     have p2 : (k : Int) < 16 := by omega
     have p3 : (k : Int) < 32 := by omega
     go_wp2_with fail
     go_roundw
     case rel => exact ⟨k + 1, by omega, by go_num, by rw [← HFS.out]; exact HH.out.put k x, HBE.out.setCell (by show g + 1 ≤ g + 1; omega) _⟩
     case measure => simp [intOf]; omega
    ·obtain rfl : k = 16 := by omega
     have hfull : aU 16 (D.take 16) = hfB (cat ps) := by rw [AH.out]; exact gI _ _ (jB _).1
     rw [hfull] at HH
     clear hfull
     have HZ4 : Hid (wr.heap[b]? = some (.cells (Array.replicate 16 (Value.int .u8 0)) 54 (0, 0))) := (HBE.out.block b (by omega)).trans HZ3.out
     have HG4 : Hid (wr.heap[g + 1]? = some (.cells (hvA (hfB (cat ps))) 54 (0, 0))) := HH.out
     go_wp2_with (first
      | (refine wpList_load_row rfl 54 _ rfl (g + 1) rfl 54 _ (0, 0) _ HG4.out Tryz.underlying54 rfl (aN (jB _)) ?_)
      | (refine wpList_store_row rfl 54 _ _ rfl b _ rfl rfl 54 _ HZ4.out (aN (jB _)) (dH (jB _)) (dG _) ?_))
     exact bodyPost_ret (results_cell_row (P := Tryz.prog) rfl _ _ b 54 _ (0, 0) _ rfl (setRow_heap _ _ _ _ _ _ HZ4.out) Tryz.underlying54 rfl (aN (jB _))) rfl ⟨rfl, by rw [HBZ.out]; exact below_setRow (QJ.out.trans (HBE.out.mono (by omega))) (Nat.le_refl _) _⟩
theorem IW (ps : List Part) (w : World) (hs : ∀ q ∈ ps, Src w w.heap.size q.sp q.n q.cap q.b) (hnil : ∀ q ∈ ps, q.sp = none → q.cap = 0) (hbd : (cat ps).length ≤ 1099511627776) (hnp : ps.length ≤ 1099511627776) :
 Calls Tryz.prog 138 #[.slice (some ⟨w.heap.size, 0, none⟩) ps.length ps.length] (w.alloc (.cells (ps.map Part.val).toArray 22)) fun e w' => e = .returned (.agg (hvA (hfB (cat ps)))) ∧ Below w.heap.size w w' := by
 have hba := aB w (.cells (ps.map Part.val).toArray 22)
 have hsa := aK w (.cells (ps.map Part.val).toArray 22)
 have hga := heap_alloc_new w (.cells (ps.map Part.val).toArray 22)
 generalize World.alloc w _ = w6 at *
 have hp : PartsIn w6 w6.heap.size (some ⟨w.heap.size, 0, none⟩) ps.length ps := by
  refine kX (ps := ps) hga (by omega) ?_
  intro q hq
  exact ((hs q hq).below hba (Nat.le_refl _)).more (by omega)
 refine (tI _ ps.length ps.length ps w6 hp hnil hbd hnp).mono fun e w' ⟨he, hb⟩ => ⟨he, hba.trans (hb.mono hba.size)⟩
theorem IU (tag : Int) (x cs : List Int) (n : Nat) (w : World) (bh : Nat) (h2 : RowIn w bh 54 .u8 x) (l2 : bh < w.heap.size) (hx : H16 x) (ht : 0 ≤ tag ∧ tag < 256) (hc : Byt cs) (hn : cs.length = n) (hn2 : n ≤ 100 := by decide) :
 Calls Tryz.prog 138 #[.slice (some ⟨w.heap.size + 1 + 1, 0, none⟩) 3 3] (((w.alloc (.cells #[.int .u8 tag] 5)).alloc (.cells (cs.map (Value.int .u8)).toArray 5)).alloc (.cells #[.slice (some ⟨w.heap.size, 0, none⟩) 1 1, .slice (some ⟨bh, 0, none⟩) 16 16, .slice (some ⟨w.heap.size + 1, 0, none⟩) n n] 22)) fun e w' => e = .returned (.agg (hvA (hfB ([tag] ++ x ++ cs)))) ∧ Below w.heap.size w w' := by
 subst hn
 have r1 := RowB.new w 5 [tag]
 have e0 : w.alloc (.cells ([tag].map (Value.int .u8)).toArray 5) = w.alloc (.cells #[.int .u8 tag] 5) := rfl
 rw [e0] at r1
 generalize w.alloc (.cells #[.int .u8 tag] 5) = w1 at *
 have r2 := RowB.new w1 5 cs
 generalize w1.alloc (.cells (cs.map (Value.int .u8)).toArray 5) = w2 at *
 have hs1 := r1.s; have hs2 := r2.s
 have hb := r1.b.trans (r2.b.mono (by omega))
 have h := IW [⟨some ⟨w.heap.size, 0, none⟩, 1, 1, [tag]⟩, ⟨some ⟨bh, 0, none⟩, 16, 16, x⟩, ⟨some ⟨w.heap.size + 1, 0, none⟩, cs.length, cs.length, cs⟩] w2 (by
  intro q hq
  simp only [List.mem_cons, List.not_mem_nil, or_false] at hq
  rcases hq with rfl | rfl | rfl
  ·exact bZ (L := [tag]) (r1.r.below r2.b (by omega)) (fun y hy => by rw [List.mem_singleton.1 hy]; exact ht) (by omega) (by simp)
  ·have := bZ (B := w2.heap.size) (cap := 16) (h2.below hb l2) hx.2 (by omega) (by rw [hx.1]; exact Nat.le_refl _); rw [hx.1] at this; exact this
  ·have := r2.r; rw [hs1] at this; exact bZ this hc (by omega) (Nat.le_refl _)) (by
  intro q hq
  simp only [List.mem_cons, List.not_mem_nil, or_false] at hq
  rcases hq with rfl | rfl | rfl <;> (intro h; cases h)) (by simp only [cat, List.map_cons, List.map_nil, List.flatten_cons, List.flatten_nil, List.length_append, List.length_cons, List.length_nil]; rw [hx.1]; omega) (show 3 ≤ 1099511627776 by omega)
 have e : cat [⟨some ⟨w.heap.size, 0, none⟩, 1, 1, [tag]⟩, ⟨some ⟨bh, 0, none⟩, 16, 16, x⟩, ⟨some ⟨w.heap.size + 1, 0, none⟩, cs.length, cs.length, cs⟩] = [tag] ++ x ++ cs := by simp [cat]
 rw [e] at h
 rw [show w2.heap.size = w.heap.size + 1 + 1 by omega] at h
 exact h.mono fun e w' ⟨he, hb'⟩ => ⟨he, hb.trans (hb'.mono (by omega))⟩
theorem oN (x : List Int) (leaf c : Int) (w : World) (hs : H16 x) :
 Calls Tryz.prog 127 #[.agg (hvA x), .int .i64 leaf, .int .i64 c] w fun e w' => e = .returned (.agg (hvA (sM x leaf c))) ∧ Below w.heap.size w w' := by
 have HS := zh hs; clear hs
 have HT := zh (Two.new w x)
 have HCH := zh (IU 3 x [leaf / 256 % 256, leaf % 256, c % 256] 3 _ w.heap.size HT.out.x (by rw [HT.out.s]; omega) HS.out (by decide) (fun z hz => by
  simp only [List.mem_cons, List.not_mem_nil, or_false] at hz
  rcases hz with rfl | rfl | rfl <;> omega) rfl)
 have hlist : [3] ++ x ++ [leaf / 256 % 256, leaf % 256, c % 256] = [3] ++ x ++ [lb1 leaf, lb0 leaf] ++ [c % 256] := by simp [lb1, lb0]
 rw [hlist, show hfB ([3] ++ x ++ [lb1 leaf, lb0 leaf] ++ [c % 256]) = sM x leaf c from rfl] at HCH
 clear hlist
 have hz0 : ((w.alloc (.cells (hvA x) 54)).alloc (.cells (Array.replicate 16 (Value.int .u8 0)) 54)).heap.size = w.heap.size + 1 + 1 := by simp
 rw [hz0] at HCH
 clear hz0
 go_enter Tryz.func127, Tryz.ntmps127
 go_wp2_with fail
 refine HCH.out.mono ?_
 rintro e w1 ⟨rfl, hb1⟩
 have HZ1 : Hid (w1.heap[w.heap.size + 1]? = some (.cells (Array.replicate 16 (Value.int .u8 0)) 54 (0, 0))) := (hb1.block _ (by omega)).trans HT.out.z
 have HBW : Hid (Below w.heap.size w w1) := HT.out.b.trans (hb1.mono (by omega))
 clear hb1 HCH HT
 generalize hb : w.heap.size = b at *
 have HBZ := zh hb; clear hb
 go_wp2_with (refine wpList_store_row rfl 54 _ _ rfl (b + 1) _ rfl rfl 54 _ HZ1.out (aN (dL _ _ _)) (dH (dL _ _ _)) (dG _) ?_)
 exact bodyPost_ret (results_cell_row (P := Tryz.prog) rfl _ _ (b + 1) 54 _ (0, 0) _ rfl (setRow_heap _ _ _ _ _ _ HZ1.out) Tryz.underlying54 rfl (aN (dL _ _ _))) rfl ⟨rfl, by rw [HBZ.out]; exact below_setRow HBW.out (by omega) _⟩
def clN (x : List Int) (leaf c fr : Int) : Nat → List Int
 | 0 => x
 | n + 1 => iL (clN x leaf c fr n) leaf c (fr + n)
def dJ (x : List Int) (leaf c fr to : Int) : List Int := if fr < 0 ∨ to > 3 then x else clN x leaf c fr (to - fr).toNat
theorem wR {x : List Int} (h : H16 x) (leaf c fr : Int) : ∀ n, H16 (clN x leaf c fr n)
 | 0 => h
 | _ + 1 => dV _ _ _ _
theorem mS {x : List Int} (h : H16 x) (leaf c fr to : Int) : H16 (dJ x leaf c fr to) := by
 unfold dJ; split
 ·exact h
 ·exact wR h _ _ _ _
theorem pG (x : List Int) (leaf c fr to : Int) (w : World) (hs : H16 x) (hk : KayIn w) (hk0 : 1 < w.heap.size) :
 Calls Tryz.prog 130 #[.agg (hvA x), .int .i64 leaf, .int .i64 c, .int .i64 fr, .int .i64 to] w fun e w' => e = .returned (.agg (hvA (dJ x leaf c fr to))) ∧ Below w.heap.size w w' := by
 have HK := zh hk; clear hk
 have HS := zh hs; clear hs
 have HT := zh (Two.new w x)
 by_cases hbad : fr < 0 ∨ to > 3
 ·have HE : Hid (dJ x leaf c fr to = x) := by show _ = _; unfold dJ; rw [if_pos hbad]
  rcases (by omega : fr < 0 ∨ (¬ fr < 0 ∧ to > 3)) with h1 | ⟨h1, h2⟩
  all_goals
   first
    | (have q1 : decide (fr < 0) = true := by simp; omega)
    | (have q1 : decide (fr < 0) = false := by simp; omega)
   try (have q2 : decide (to > 3) = true := by simp; omega)
   clear hbad
   go_enter Tryz.func130, Tryz.ntmps130
   go_wp2_with (first
    | (generalize hw0 : World.alloc (World.alloc w _) _ = w0; have HX0 : Hid (w0.heap[w.heap.size]? = some (.cells (hvA x) 54 (0, 0))) := (by rw [← hw0]; exact HT.out.x); have HZ0 : Hid (w0.heap[w.heap.size + 1]? = some (.cells (Array.replicate 16 (Value.int .u8 0)) 54 (0, 0))) := (by rw [← hw0]; exact HT.out.z); have HB0 : Hid (Below w.heap.size w w0) := (by rw [← hw0]; exact HT.out.b); clear hw0 HT; refine wpList_load_row rfl 54 _ rfl w.heap.size rfl 54 _ (0, 0) _ HX0.out Tryz.underlying54 rfl (aN HS.out) ?_)
    | (refine wpList_store_row rfl 54 _ _ rfl (w.heap.size + 1) _ rfl rfl 54 _ HZ0.out (aN HS.out) (dH HS.out) (dG _) ?_))
   exact bodyPost_ret (results_cell_row (P := Tryz.prog) rfl _ _ (w.heap.size + 1) 54 _ (0, 0) _ rfl (setRow_heap _ _ _ _ _ _ HZ0.out) Tryz.underlying54 rfl (aN HS.out)) rfl ⟨by rw [HE.out], below_setRow HB0.out (by omega) _⟩
 ·have hf0 : 0 ≤ fr := by omega
  have ht3 : to ≤ 3 := by omega
  have q1 : decide (fr < 0) = false := by simp; omega
  have q2 : decide (to > 3) = false := by simp; omega
  have HE : Hid (dJ x leaf c fr to = clN x leaf c fr (to - fr).toNat) := by show _ = _; unfold dJ; rw [if_neg hbad]
  clear hbad
  go_enter Tryz.func130, Tryz.ntmps130
  go_wp2_with fail
  generalize hw0 : World.alloc (World.alloc w _) _ = w0
  have HT0 : Hid (Two w x w0) := by rw [← hw0]; exact HT.out
  clear hw0 HT
  generalize hb : w.heap.size = b at *
  have HBZ := zh hb; clear hb
  have HX0 : Hid (w0.heap[b]? = some (.cells (hvA x) 54 (0, 0))) := by have h := HT0.out.x; rw [HBZ.out] at h; exact h
  have HZ0 : Hid (w0.heap[b + 1]? = some (.cells (Array.replicate 16 (Value.int .u8 0)) 54 (0, 0))) := by have h := HT0.out.z; rw [HBZ.out] at h; exact h
  have HB0 : Hid (Below b w w0) := by have h := HT0.out.b; rw [HBZ.out] at h; exact h
  clear HT0
  go_loopw [11] (fun i wr => ∃ k : Nat, i = .int .i64 (fr + (k : Int)) ∧ (fr + (k : Int) ≤ to ∨ k = 0) ∧ Hid (RowIn wr b 54 .u8 (clN x leaf c fr k)) ∧ Hid (wr.heap[b + 1]? = some (.cells (Array.replicate 16 (Value.int .u8 0)) 54 (0, 0))) ∧ Hid (Below b w wr)) (fun i _ => (to - intOf i).toNat)
  case atStart => exact ⟨0, by simp, Or.inr rfl, HX0.out, HZ0.out, HB0.out⟩
  case round =>
   clear HX0 HZ0 HB0
   obtain ⟨k, rfl, hkt, HXR, HZR, HBR⟩ := hrel
   have HCX : Hid (wr.heap[b]? = some (.cells (hvA (clN x leaf c fr k)) 54 (0, 0))) := HXR.out
   have hbw : b + 1 < wr.heap.size := (Array.getElem?_eq_some_iff.1 HZR.out).1
   have HHC := zh (wR HS.out leaf c fr k)
   by_cases hlt : fr + (k : Int) < to
   ·have q3 : decide (fr + (k : Int) < to) = true := by simpa using hlt
    have p0 : 0 ≤ fr + (k : Int) := by omega
    have p1 : fr + (k : Int) ≤ 3 := by omega
    have hkn : k ≤ 3 := by omega
    have HE2 : Hid (clN x leaf c fr (k + 1) = iL (clN x leaf c fr k) leaf c (fr + (k : Int))) := rfl
    generalize clN x leaf c fr k = y at *
    have HKR := zh (HK.out.below HBR.out (HBZ.out ▸ hk0))
    have hkr : 1 < wr.heap.size := by have := HBZ.out; omega
    go_wp2_with (refine wpList_load_row rfl 54 _ rfl b rfl 54 _ (0, 0) _ HCX.out Tryz.underlying54 rfl (aN HHC.out) ?_)
    refine (EZ y leaf c (fr + (k : Int)) wr HHC.out HKR.out hkr).mono ?_
    rintro e w6 ⟨rfl, hb6⟩
    have HB6 := zh hb6; clear hb6
    have HXS : Hid (w6.heap[b]? = some (.cells (hvA y) 54 (0, 0))) := (HB6.out.block b (by omega)).trans HCX.out
    have HZS : Hid (w6.heap[b + 1]? = some (.cells (Array.replicate 16 (Value.int .u8 0)) 54 (0, 0))) := (HB6.out.block (b + 1) hbw).trans HZR.out
    have HSZ : Hid ((hvA y).size = (hvA (iL y leaf c (fr + (k : Int)))).size) := by show _ = _; simp [hvA, HHC.out.1, (dV y leaf c (fr + (k : Int))).1]
    go_wp2_with (refine wpList_store_row rfl 54 _ _ rfl b _ rfl rfl 54 _ HXS.out (aN (dV _ _ _ _)) HSZ.out (dG _) ?_)
    have HN1 : Hid (RowIn (w6.setRow b (hvA (iL y leaf c (fr + (k : Int))))) b 54 .u8 (iL y leaf c (fr + (k : Int)))) := setRow_heap _ _ _ _ _ _ HXS.out
    have HN2 : Hid ((w6.setRow b (hvA (iL y leaf c (fr + (k : Int))))).heap[b + 1]? = some (.cells (Array.replicate 16 (Value.int .u8 0)) 54 (0, 0))) := (setRow_other _ _ _ _ (by omega)).trans HZS.out
    have HN3 : Hid (Below b w (w6.setRow b (hvA (iL y leaf c (fr + (k : Int)))))) := below_setRow (HBR.out.trans (HB6.out.mono (by omega))) (Nat.le_refl _) _
    generalize World.setRow w6 b _ = w7 at *
    have q4 : fr + (k : Int) + 1 = fr + ((k + 1 : Nat) : Int) := by omega
    have HQ4 := zh q4; clear q4
    go_roundw
    case rel => exact ⟨k + 1, by rw [HQ4.out], Or.inl (by omega), by rw [HE2.out]; exact HN1, HN2, HN3⟩
    case measure => simp [intOf]; omega
   ·have q3 : decide (fr + (k : Int) < to) = false := by simp; omega
    have HKE : Hid (dJ x leaf c fr to = clN x leaf c fr k) := by
     show _ = _; rw [HE.out]; congr 1
     rcases hkt with h | h <;> omega
    generalize clN x leaf c fr k = y at *
    go_wp2_with (first
     | (refine wpList_load_row rfl 54 _ rfl b rfl 54 _ (0, 0) _ HCX.out Tryz.underlying54 rfl (aN HHC.out) ?_)
     | (refine wpList_store_row rfl 54 _ _ rfl (b + 1) _ rfl rfl 54 _ HZR.out (aN HHC.out) (dH HHC.out) (dG _) ?_))
    exact bodyPost_ret (results_cell_row (P := Tryz.prog) rfl _ _ (b + 1) 54 _ (0, 0) _ rfl (setRow_heap _ _ _ _ _ _ HZR.out) Tryz.underlying54 rfl (aN HHC.out)) rfl ⟨by rw [HKE.out], by rw [HBZ.out]; exact below_setRow HBR.out (by omega) _⟩
theorem qK (x : List Int) (leaf c fr to : Int) (w : World) (hs : H16 x) :
 Calls Tryz.prog 126 #[.agg (hvA x), .int .i64 leaf, .int .i64 c, .int .i64 fr, .int .i64 to] w fun e w' => e = .returned (.agg (hvA (dJ x leaf c fr to))) ∧ Below w.heap.size w w' := by
 skip
 have HS := zh hs; clear hs
 have HT := zh (Two.new w x)
 by_cases hbad : fr < 0 ∨ to > 3
 ·have HE : Hid (dJ x leaf c fr to = x) := by show _ = _; unfold dJ; rw [if_pos hbad]
  rcases (by omega : fr < 0 ∨ (¬ fr < 0 ∧ to > 3)) with h1 | ⟨h1, h2⟩
  all_goals
   first
    | (have q1 : decide (fr < 0) = true := by simp; omega)
    | (have q1 : decide (fr < 0) = false := by simp; omega)
   try (have q2 : decide (to > 3) = true := by simp; omega)
   clear hbad
   go_enter Tryz.func126, Tryz.ntmps126
   go_wp2_with (first
    | (generalize hw0 : World.alloc (World.alloc w _) _ = w0; have HX0 : Hid (w0.heap[w.heap.size]? = some (.cells (hvA x) 54 (0, 0))) := (by rw [← hw0]; exact HT.out.x); have HZ0 : Hid (w0.heap[w.heap.size + 1]? = some (.cells (Array.replicate 16 (Value.int .u8 0)) 54 (0, 0))) := (by rw [← hw0]; exact HT.out.z); have HB0 : Hid (Below w.heap.size w w0) := (by rw [← hw0]; exact HT.out.b); clear hw0 HT; refine wpList_load_row rfl 54 _ rfl w.heap.size rfl 54 _ (0, 0) _ HX0.out Tryz.underlying54 rfl (aN HS.out) ?_)
    | (refine wpList_store_row rfl 54 _ _ rfl (w.heap.size + 1) _ rfl rfl 54 _ HZ0.out (aN HS.out) (dH HS.out) (dG _) ?_))
   exact bodyPost_ret (results_cell_row (P := Tryz.prog) rfl _ _ (w.heap.size + 1) 54 _ (0, 0) _ rfl (setRow_heap _ _ _ _ _ _ HZ0.out) Tryz.underlying54 rfl (aN HS.out)) rfl ⟨by rw [HE.out], below_setRow HB0.out (by omega) _⟩
 ·have hf0 : 0 ≤ fr := by omega
  have ht3 : to ≤ 3 := by omega
  have q1 : decide (fr < 0) = false := by simp; omega
  have q2 : decide (to > 3) = false := by simp; omega
  have HE : Hid (dJ x leaf c fr to = clN x leaf c fr (to - fr).toNat) := by show _ = _; unfold dJ; rw [if_neg hbad]
  clear hbad
  go_enter Tryz.func126, Tryz.ntmps126
  go_wp2_with fail
  generalize hw0 : World.alloc (World.alloc w _) _ = w0
  have HT0 : Hid (Two w x w0) := by rw [← hw0]; exact HT.out
  clear hw0 HT
  generalize hb : w.heap.size = b at *
  have HBZ := zh hb; clear hb
  have HX0 : Hid (w0.heap[b]? = some (.cells (hvA x) 54 (0, 0))) := by have h := HT0.out.x; rw [HBZ.out] at h; exact h
  have HZ0 : Hid (w0.heap[b + 1]? = some (.cells (Array.replicate 16 (Value.int .u8 0)) 54 (0, 0))) := by have h := HT0.out.z; rw [HBZ.out] at h; exact h
  have HB0 : Hid (Below b w w0) := by have h := HT0.out.b; rw [HBZ.out] at h; exact h
  clear HT0
  go_loopw [11] (fun i wr => ∃ k : Nat, i = .int .i64 (fr + (k : Int)) ∧ (fr + (k : Int) ≤ to ∨ k = 0) ∧ Hid (RowIn wr b 54 .u8 (clN x leaf c fr k)) ∧ Hid (wr.heap[b + 1]? = some (.cells (Array.replicate 16 (Value.int .u8 0)) 54 (0, 0))) ∧ Hid (Below b w wr)) (fun i _ => (to - intOf i).toNat)
  case atStart => exact ⟨0, by simp, Or.inr rfl, HX0.out, HZ0.out, HB0.out⟩
  case round =>
   clear HX0 HZ0 HB0
   obtain ⟨k, rfl, hkt, HXR, HZR, HBR⟩ := hrel
   have HCX : Hid (wr.heap[b]? = some (.cells (hvA (clN x leaf c fr k)) 54 (0, 0))) := HXR.out
   have hbw : b + 1 < wr.heap.size := (Array.getElem?_eq_some_iff.1 HZR.out).1
   have HHC := zh (wR HS.out leaf c fr k)
   by_cases hlt : fr + (k : Int) < to
   ·have q3 : decide (fr + (k : Int) < to) = true := by simpa using hlt
    have p0 : 0 ≤ fr + (k : Int) := by omega
    have p1 : fr + (k : Int) ≤ 3 := by omega
    have hkn : k ≤ 3 := by omega
    have HE2 : Hid (clN x leaf c fr (k + 1) = iL (clN x leaf c fr k) leaf c (fr + (k : Int))) := rfl
    generalize clN x leaf c fr k = y at *
    have HCH := zh (IU 4 y [leaf / 256 % 256, leaf % 256, c % 256, fr + (k : Int)] 4 wr b HXR.out (by omega) HHC.out (by decide) (fun z hz => by
     simp only [List.mem_cons, List.not_mem_nil, or_false] at hz
     rcases hz with rfl | rfl | rfl | rfl <;> omega) rfl)
    have hmod : (fr + (k : Int)) % 256 = fr + (k : Int) := by omega
    have hlist : [4] ++ y ++ [leaf / 256 % 256, leaf % 256, c % 256, fr + (k : Int)] = [4] ++ y ++ [lb1 leaf, lb0 leaf] ++ [c % 256, (fr + (k : Int)) % 256] := by rw [hmod]; simp [lb1, lb0]
    clear hmod
    rw [hlist, show hfB ([4] ++ y ++ [lb1 leaf, lb0 leaf] ++ [c % 256, (fr + (k : Int)) % 256]) = iL y leaf c (fr + (k : Int)) from rfl] at HCH
    clear hlist
    go_wp2_with fail
    refine HCH.out.mono ?_
    rintro e w6 ⟨rfl, hb6⟩
    have HB6 := zh hb6; clear hb6 HCH
    have HXS : Hid (w6.heap[b]? = some (.cells (hvA y) 54 (0, 0))) := (HB6.out.block b (by omega)).trans HCX.out
    have HZS : Hid (w6.heap[b + 1]? = some (.cells (Array.replicate 16 (Value.int .u8 0)) 54 (0, 0))) := (HB6.out.block (b + 1) hbw).trans HZR.out
    have HSZ : Hid ((hvA y).size = (hvA (iL y leaf c (fr + (k : Int)))).size) := by show _ = _; simp [hvA, HHC.out.1, (dV y leaf c (fr + (k : Int))).1]
    go_wp2_with (refine wpList_store_row rfl 54 _ _ rfl b _ rfl rfl 54 _ HXS.out (aN (dV _ _ _ _)) HSZ.out (dG _) ?_)
    have HN1 : Hid (RowIn (w6.setRow b (hvA (iL y leaf c (fr + (k : Int))))) b 54 .u8 (iL y leaf c (fr + (k : Int)))) := setRow_heap _ _ _ _ _ _ HXS.out
    have HN2 : Hid ((w6.setRow b (hvA (iL y leaf c (fr + (k : Int))))).heap[b + 1]? = some (.cells (Array.replicate 16 (Value.int .u8 0)) 54 (0, 0))) := (setRow_other _ _ _ _ (by omega)).trans HZS.out
    have HN3 : Hid (Below b w (w6.setRow b (hvA (iL y leaf c (fr + (k : Int)))))) := below_setRow (HBR.out.trans (HB6.out.mono (by omega))) (Nat.le_refl _) _
    generalize World.setRow w6 b _ = w7 at *
    have q4 : fr + (k : Int) + 1 = fr + ((k + 1 : Nat) : Int) := by omega
    have HQ4 := zh q4; clear q4
    go_roundw
    case rel => exact ⟨k + 1, by rw [HQ4.out], Or.inl (by omega), by rw [HE2.out]; exact HN1, HN2, HN3⟩
    case measure => simp [intOf]; omega
   ·have q3 : decide (fr + (k : Int) < to) = false := by simp; omega
    have HKE : Hid (dJ x leaf c fr to = clN x leaf c fr k) := by
     show _ = _; rw [HE.out]; congr 1
     rcases hkt with h | h <;> omega
    generalize clN x leaf c fr k = y at *
    go_wp2_with (first
     | (refine wpList_load_row rfl 54 _ rfl b rfl 54 _ (0, 0) _ HCX.out Tryz.underlying54 rfl (aN HHC.out) ?_)
     | (refine wpList_store_row rfl 54 _ _ rfl (b + 1) _ rfl rfl 54 _ HZR.out (aN HHC.out) (dH HHC.out) (dG _) ?_))
    exact bodyPost_ret (results_cell_row (P := Tryz.prog) rfl _ _ (b + 1) 54 _ (0, 0) _ rfl (setRow_heap _ _ _ _ _ _ HZR.out) Tryz.underlying54 rfl (aN HHC.out)) rfl ⟨by rw [HKE.out], by rw [HBZ.out]; exact below_setRow HBR.out (by omega) _⟩
end Go.Proofs.YtcligodahogpkaaGreatDoor
