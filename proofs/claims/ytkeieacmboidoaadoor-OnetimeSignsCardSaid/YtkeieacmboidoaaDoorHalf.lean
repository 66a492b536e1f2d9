/-
  The walk of digest.Half (conditions: the table of constants reads as it is laid; the parts read as lists of bytes).
-/
import Derived.Test.YtkeieacmboidoaaDoorGg
namespace Go.Proofs.YtkeieacmboidoaaDoor
open Go.RowKit

set_option maxRecDepth 100000 in
set_option maxHeartbeats 1000000 in
theorem Half_any (pa : Option Addr) (np ncap : Nat) (ps : List Part) (w : World) (hp : PartsIn w w.heap.size pa np ps) (hk : KayIn w) (hk0 : 0 < w.heap.size) (hbd : (cat ps).length ≤ 1099511627776) (hnp : np ≤ 1099511627776) :
    Calls Tryd.prog 23 #[.slice pa np ncap] w (HalfRes w (cat ps)) := by
  have HK := Lib.hid hk; clear hk
  have HP := Lib.hid hp; clear hp
  have HN := Lib.hid (heap_alloc_new w (.cells (Array.replicate 16 (Value.int .u8 0)) 23))
  have HB := Lib.hid (below_alloc w (.cells (Array.replicate 16 (Value.int .u8 0)) 23))
  have HS := Lib.hid (alloc_size w (.cells (Array.replicate 16 (Value.int .u8 0)) 23))
  go_enter Tryd.func23, Tryd.ntmps23
  go_wp2_with fail
  generalize hw0 : World.alloc w _ = w0
  have hz0 : w0.heap[w.heap.size]? = some (.cells (Array.replicate 16 (Value.int .u8 0)) 23 (0, 0)) := by rw [← hw0]; exact HN.out
  have hb0 : Below w.heap.size w w0 := by rw [← hw0]; exact HB.out
  have hs0 : w0.heap.size = w.heap.size + 1 := by rw [← hw0]; exact HS.out
  clear hw0 HN HB HS
  refine (sum_any pa np ncap ps w0 ((HP.out.below hb0 (Nat.le_refl _)).below (Below.refl w0.heap.size w0) (by omega)) (HK.out.below hb0 hk0) (by omega) hbd hnp).mono ?_
  rintro e w1 ⟨rfl, hb1⟩
  have hz1 := (hb1.block _ (by omega : w.heap.size < w0.heap.size)).trans hz0
  have hbe1 := hb0.trans (hb1.mono hb0.size)
  have hs1 := hb1.size
  clear hz0 hb0 hb1
  have H1 := Lib.hid hz1; clear hz1
  have HD := Lib.hid (heap_alloc_new w1 (.cells (Array.replicate 32 (Value.int .u8 0)) 37))
  go_wp2_with (refine wpList_store_row rfl 37 _ _ rfl w1.heap.size _ rfl rfl 37 _ HD.out (dg_info _) (by rw [dg_size]; rfl) (dg_one _) ?_; generalize hw2 : World.setRow _ _ _ = w2)
  have hg2 : w2.heap[w1.heap.size]? = some (.cells (dg (cat ps)) 37 (0, 0)) := by rw [← hw2]; exact setRow_heap _ _ _ _ _ _ HD.out
  have hb2 : Below w1.heap.size w1 w2 := by rw [← hw2]; exact below_setRow (below_alloc _ _) (Nat.le_refl _) _
  have hs2 : w2.heap.size = w1.heap.size + 1 := by rw [← hw2]; simp
  clear hw2 HD
  have hz2 := (hb2.block _ (by omega : w.heap.size < w1.heap.size)).trans H1.out
  have hbe2 := hbe1.trans (hb2.mono hbe1.size)
  have HN := Lib.hid (heap_alloc_new w2 (.cells (Array.replicate 16 (Value.int .u8 0)) 23))
  have HB := Lib.hid (below_alloc w2 (.cells (Array.replicate 16 (Value.int .u8 0)) 23))
  generalize hw3 : World.alloc w2 _ = w3
  have hg3 : w3.heap[w2.heap.size]? = some (.cells (Array.replicate 16 (Value.int .u8 0)) 23 (0, 0)) := by rw [← hw3]; exact HN.out
  have hb3 : Below w2.heap.size w2 w3 := by rw [← hw3]; exact HB.out
  clear hw3 HN HB
  have hd3 := (hb3.block _ (by omega : w1.heap.size < w2.heap.size)).trans hg2
  have hz3 := (hb3.block _ (by omega : w.heap.size < w2.heap.size)).trans hz2
  have hbe3 := hbe2.trans (hb3.mono hbe2.size)
  rw [hs2] at hg3
  clear hb3 hbe2 hz2 hb2 hg2 hbe1 H1
  have hl16 : (((dbytes (sha (cat ps)).list).take 16).map (Value.int .u8)).length = Nat.min 32 16 := by simp [dbytes_length, St.list_length]
  have hpos : ∀ j v, (((dbytes (sha (cat ps)).list).take 16).map (Value.int .u8))[j]? = some v → w3.cell? ((⟨w1.heap.size, 0, none⟩ : Addr).add j) = some v := by
    intro j v hv
    rw [Addr.add_mid, Nat.zero_add]
    refine heap_cell hd3 ?_
    rw [List.map_take, List.getElem?_take] at hv
    split at hv
    · exact hv
    · cases hv
  have HP2 := Lib.hid hpos; have HL := Lib.hid hl16; clear hpos hl16
  have hone := one_map .u8 ((dbytes (sha (cat ps)).list).take 16)
  have HO := Lib.hid hone; clear hone
  have HG := Lib.hid (show w3.heap[w1.heap.size + 1]? = some (.cells (List.replicate 16 (Value.int .u8 0)).toArray 23 (0, 0)) by rw [hg3]; rfl)
  obtain ⟨c, hc⟩ : ∃ c, c = ((dbytes (sha (cat ps)).list).take 16).map (Value.int .u8) := ⟨_, rfl⟩
  rw [← hc] at HP2 HL HO
  have HC := Lib.hid hc; clear hc hg3 hd3
  have HZ := Lib.hid hz3; clear hz3
  go_region_law (refine step_copy_splice rfl (.tmp 7) (.tmp 8) 50 50 rfl 5 Tryd.underlying50 Tryd.info5b _ _ _ _ _ _ rfl rfl (w1.heap.size + 1) 0 _ 23 HG.out c HL.out (fun _ => ⟨rfl, _, rfl, HP2.out⟩) (by rw [HL.out]; simp) HO.out (w1.heap.size + 1) w3 ((Below.refl _ _).drew) (Nat.le_refl _) ?_; intro w4 hg4 hb4)
  have hcl : c.length = 16 := by rw [HL.out]; rfl
  have hsp : splice (List.replicate 16 (Value.int .u8 0)) 0 c = c := by
    unfold splice; rw [List.take_zero, List.nil_append, List.drop_eq_nil_of_le (by rw [hcl]; simp), List.append_nil]
  have hg5 : w4.heap[w1.heap.size + 1]? = some (.cells c.toArray 23 (0, 0)) := by rw [hg4.out, hsp]
  have hz5 : w4.heap[w.heap.size]? = some (.cells (Array.replicate 16 (Value.int .u8 0)) 23 (0, 0)) := (hb4.block _ (by omega)).trans HZ.out
  have hbe5 := hbe3.trans (hb4.mono (by omega))
  have hi : (Tryd.prog.info? 23).map (·.size) = some c.toArray.size := by rw [List.size_toArray, hcl]; exact Tryd.info30h
  have HI := Lib.hid hi; have HG5 := Lib.hid hg5; have HZ5 := Lib.hid hz5
  have hone2 : c.toArray.all (·.oneCell') = true := all_oneCell_toArray HO.out
  have HO2 := Lib.hid hone2
  have HSZ := Lib.hid (show (Array.replicate 16 (Value.int .u8 0)).size = c.toArray.size by simp [hcl])
  clear hi hg5 hz5 hcl hsp hone2 hb4 hg4 HP2 HL HG hbe3 HZ
  go_wp2_with (first
    | (refine wpList_load_row rfl 23 _ rfl (w1.heap.size + 1) rfl 23 _ (0, 0) _ HG5.out Tryd.underlying23 rfl HI.out ?_)
    | (refine wpList_store_row rfl 23 _ _ rfl w.heap.size _ rfl rfl 23 _ HZ5.out HI.out HSZ.out HO2.out ?_))
  exact bodyPost_ret (results_cell_row (P := Tryd.prog) rfl _ _ w.heap.size 23 _ (0, 0) _ rfl (setRow_heap _ _ _ _ _ _ HZ5.out) Tryd.underlying23 rfl HI.out) rfl ⟨by rw [HC.out]; rfl, below_setRow hbe5 (Nat.le_refl _) _⟩
end Go.Proofs.YtkeieacmboidoaaDoor
