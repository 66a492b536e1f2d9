/-
  The walks of digest.Half and of the statements' own check awake (conditions: the table of constants reads as it is laid; the parts read as lists of bytes).
-/
import Derived.Test.YtgkomippcdgchaaDoorShaJ
namespace Go.Proofs.YtgkomippcdgchaaDoor
open Go.RowKit

theorem Tryd.info30h : (Tryd.prog.info? 30).map (·.size) = some 16 := by kernel_rfl
theorem nil_digest : dbytes (sha []).list = [0xe3, 0xb0, 0xc4, 0x42, 0x98, 0xfc, 0x1c, 0x14, 0x9a, 0xfb, 0xf4, 0xc8, 0x99, 0x6f, 0xb9, 0x24, 0x27, 0xae, 0x41, 0xe4, 0x64, 0x9b, 0x93, 0x4c, 0xa4, 0x95, 0x99, 0x1b, 0x78, 0x52, 0xb8, 0x55] := by decide +kernel
theorem awake_cell {w : World} {b : Nat} (h : RowIn w b 25 .u8 (dbytes (sha []).list)) (i : Nat) (v : Int) (hv : [0xe3, 0xb0, 0xc4, 0x42, 0x98, 0xfc, 0x1c, 0x14, 0x9a, 0xfb, 0xf4, 0xc8, 0x99, 0x6f, 0xb9, 0x24, 0x27, 0xae, 0x41, 0xe4, 0x64, 0x9b, 0x93, 0x4c, 0xa4, 0x95, 0x99, 0x1b, 0x78, 0x52, 0xb8, 0x55][i]? = some v) : w.cell? ⟨b, i, none⟩ = some (.int .u8 v) := by
  rw [nil_digest] at h
  exact heap_cell h (by rw [List.getElem?_map, hv]; rfl)
/-- the bytes of the half digest of l -/
def hf (l : List Int) : Array Value := (((dbytes (sha l).list).take 16).map (Value.int .u8)).toArray
def HalfRes (w : World) (l : List Int) (e : Ending) (w' : World) : Prop := e = .returned (.agg (hf l)) ∧ Below w.heap.size w w'

set_option maxRecDepth 100000 in
set_option maxHeartbeats 1000000 in
theorem Half_any (pa : Option Addr) (np ncap : Nat) (ps : List Part) (w : World) (hp : PartsIn w w.heap.size pa np ps) (hk : KayIn w) (hk0 : 0 < w.heap.size) (hbd : (cat ps).length ≤ 1099511627776) (hnp : np ≤ 1099511627776) :
    Calls Tryd.prog 13 #[.slice pa np ncap] w (HalfRes w (cat ps)) := by
  have HK := Lib.hid hk; clear hk
  have HP := Lib.hid hp; clear hp
  have HN := Lib.hid (heap_alloc_new w (.cells (Array.replicate 16 (Value.int .u8 0)) 30))
  have HB := Lib.hid (below_alloc w (.cells (Array.replicate 16 (Value.int .u8 0)) 30))
  have HS := Lib.hid (alloc_size w (.cells (Array.replicate 16 (Value.int .u8 0)) 30))
  go_enter Tryd.func13, Tryd.ntmps13
  go_wp2_with fail
  generalize hw0 : World.alloc w _ = w0
  have hz0 : w0.heap[w.heap.size]? = some (.cells (Array.replicate 16 (Value.int .u8 0)) 30 (0, 0)) := by rw [← hw0]; exact HN.out
  have hb0 : Below w.heap.size w w0 := by rw [← hw0]; exact HB.out
  have hs0 : w0.heap.size = w.heap.size + 1 := by rw [← hw0]; exact HS.out
  clear hw0 HN HB HS
  refine (sum_any pa np ncap ps w0 ((HP.out.below hb0 (Nat.le_refl _)).below (Below.refl w0.heap.size w0) (by omega)) (HK.out.below hb0 hk0) (by omega) hbd hnp).mono ?_
  rintro e w1 ⟨rfl, hb1⟩
  have hz1 := (hb1.block _ (by omega : w.heap.size < w0.heap.size)).trans hz0
  have hbe1 := hb0.trans (hb1.mono hb0.size)
  have hs1 := hb1.size
  clear hz0 hb0 hb1
  have H1 := Lib.hid hz1; clear hz1
  have HD := Lib.hid (heap_alloc_new w1 (.cells (Array.replicate 32 (Value.int .u8 0)) 25))
  go_wp2_with (refine wpList_store_row rfl 25 _ _ rfl w1.heap.size _ rfl rfl 25 _ HD.out (dg_info _) (by rw [dg_size]; rfl) (dg_one _) ?_; generalize hw2 : World.setRow _ _ _ = w2)
  have hg2 : w2.heap[w1.heap.size]? = some (.cells (dg (cat ps)) 25 (0, 0)) := by rw [← hw2]; exact setRow_heap _ _ _ _ _ _ HD.out
  have hb2 : Below w1.heap.size w1 w2 := by rw [← hw2]; exact below_setRow (below_alloc _ _) (Nat.le_refl _) _
  have hs2 : w2.heap.size = w1.heap.size + 1 := by rw [← hw2]; simp
  clear hw2 HD
  have hz2 := (hb2.block _ (by omega : w.heap.size < w1.heap.size)).trans H1.out
  have hbe2 := hbe1.trans (hb2.mono hbe1.size)
  have HN := Lib.hid (heap_alloc_new w2 (.cells (Array.replicate 16 (Value.int .u8 0)) 30))
  have HB := Lib.hid (below_alloc w2 (.cells (Array.replicate 16 (Value.int .u8 0)) 30))
  generalize hw3 : World.alloc w2 _ = w3
  have hg3 : w3.heap[w2.heap.size]? = some (.cells (Array.replicate 16 (Value.int .u8 0)) 30 (0, 0)) := by rw [← hw3]; exact HN.out
  have hb3 : Below w2.heap.size w2 w3 := by rw [← hw3]; exact HB.out
  clear hw3 HN HB
  have hd3 := (hb3.block _ (by omega : w1.heap.size < w2.heap.size)).trans hg2
  have hz3 := (hb3.block _ (by omega : w.heap.size < w2.heap.size)).trans hz2
  have hbe3 := hbe2.trans (hb3.mono hbe2.size)
  rw [hs2] at hg3
  clear hb3 hbe2 hz2 hb2 hg2 hbe1 H1
  have hl16 : (((dbytes (sha (cat ps)).list).take 16).map (Value.int .u8)).length = Nat.min 32 16 := by simp [dbytes_length, St.list_length]
  have hpos : ∀ j v, (((dbytes (sha (cat ps)).list).take 16).map (Value.int .u8))[j]? = some v → w3.cell? ((⟨w1.heap.size, 0, none⟩ : Addr).add j) = some v := by
    intro j v hv
    rw [Addr.add_mid, Nat.zero_add]
    refine heap_cell hd3 ?_
    rw [List.map_take, List.getElem?_take] at hv
    split at hv
    · exact hv
    · cases hv
  have HP2 := Lib.hid hpos; have HL := Lib.hid hl16; clear hpos hl16
  have hone := one_map .u8 ((dbytes (sha (cat ps)).list).take 16)
  have HO := Lib.hid hone; clear hone
  have HG := Lib.hid (show w3.heap[w1.heap.size + 1]? = some (.cells (List.replicate 16 (Value.int .u8 0)).toArray 30 (0, 0)) by rw [hg3]; rfl)
  obtain ⟨c, hc⟩ : ∃ c, c = ((dbytes (sha (cat ps)).list).take 16).map (Value.int .u8) := ⟨_, rfl⟩
  rw [← hc] at HP2 HL HO
  have HC := Lib.hid hc; clear hc hg3 hd3
  have HZ := Lib.hid hz3; clear hz3
  go_region_law (refine step_copy_splice rfl (.tmp 7) (.tmp 8) 22 22 rfl 5 Tryd.underlying22 Tryd.info5b _ _ _ _ _ _ rfl rfl (w1.heap.size + 1) 0 _ 30 HG.out c HL.out (fun _ => ⟨rfl, _, rfl, HP2.out⟩) (by rw [HL.out]; simp) HO.out (w1.heap.size + 1) w3 ((Below.refl _ _).drew) (Nat.le_refl _) ?_; intro w4 hg4 hb4)
  have hcl : c.length = 16 := by rw [HL.out]; rfl
  have hsp : splice (List.replicate 16 (Value.int .u8 0)) 0 c = c := by
    unfold splice; rw [List.take_zero, List.nil_append, List.drop_eq_nil_of_le (by rw [hcl]; simp), List.append_nil]
  have hg5 : w4.heap[w1.heap.size + 1]? = some (.cells c.toArray 30 (0, 0)) := by rw [hg4.out, hsp]
  have hz5 : w4.heap[w.heap.size]? = some (.cells (Array.replicate 16 (Value.int .u8 0)) 30 (0, 0)) := (hb4.block _ (by omega)).trans HZ.out
  have hbe5 := hbe3.trans (hb4.mono (by omega))
  have hi : (Tryd.prog.info? 30).map (·.size) = some c.toArray.size := by rw [List.size_toArray, hcl]; exact Tryd.info30h
  have HI := Lib.hid hi; have HG5 := Lib.hid hg5; have HZ5 := Lib.hid hz5
  have hone2 : c.toArray.all (·.oneCell') = true := all_oneCell_toArray HO.out
  have HO2 := Lib.hid hone2
  have HSZ := Lib.hid (show (Array.replicate 16 (Value.int .u8 0)).size = c.toArray.size by simp [hcl])
  clear hi hg5 hz5 hcl hsp hone2 hb4 hg4 HP2 HL HG hbe3 HZ
  go_wp2_with (first
    | (refine wpList_load_row rfl 30 _ rfl (w1.heap.size + 1) rfl 30 _ (0, 0) _ HG5.out Tryd.underlying30 rfl HI.out ?_)
    | (refine wpList_store_row rfl 30 _ _ rfl w.heap.size _ rfl rfl 30 _ HZ5.out HI.out HSZ.out HO2.out ?_))
  exact bodyPost_ret (results_cell_row (P := Tryd.prog) rfl _ _ w.heap.size 30 _ (0, 0) _ rfl (setRow_heap _ _ _ _ _ _ HZ5.out) Tryd.underlying30 rfl HI.out) rfl ⟨by rw [HC.out]; rfl, below_setRow hbe5 (Nat.le_refl _) _⟩

set_option maxRecDepth 100000 in
set_option maxHeartbeats 1000000 in
theorem awake_any (w : World) (hk : KayIn w) (hk0 : 0 < w.heap.size) :
    Calls Tryd.prog 10 #[] w fun e w' => e = .returned (.bool true) ∧ Below w.heap.size w w' := by
  have HK := Lib.hid hk; clear hk
  go_enter Tryd.func10, Tryd.ntmps10
  go_wp2_with fail
  refine (Sum_any none 0 0 [] w ⟨rfl, fun x hx => by simp at hx, fun h => absurd h (by omega)⟩ HK.out hk0 (by omega)).mono ?_
  rintro e w1 ⟨rfl, hb1⟩
  have HD := Lib.hid (heap_alloc_new w1 (.cells (Array.replicate 32 (Value.int .u8 0)) 25))
  go_wp2_with (refine wpList_store_row rfl 25 _ _ rfl w1.heap.size _ rfl rfl 25 _ HD.out (dg_info _) (by rw [dg_size]; rfl) (dg_one _) ?_; generalize hw2 : World.setRow _ _ _ = w2; have hg2 : RowIn w2 w1.heap.size 25 .u8 (dbytes (sha []).list) := (by rw [← hw2]; exact setRow_heap _ _ _ _ _ _ HD.out); have hb2 : Below w1.heap.size w1 w2 := (by rw [← hw2]; exact below_setRow (below_alloc _ _) (Nat.le_refl _) _); have c0 := awake_cell hg2 0 227 rfl; have c1 := awake_cell hg2 1 176 rfl; have c31 := awake_cell hg2 31 85 rfl; clear hw2 hg2)
  go_ret
  exact ⟨rfl, hb1.trans (hb2.mono hb1.size)⟩
end Go.Proofs.YtgkomippcdgchaaDoor
