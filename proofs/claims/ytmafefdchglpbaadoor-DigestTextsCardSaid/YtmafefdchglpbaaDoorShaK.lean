/-
  The walk of the statements' own check awake (condition: the table of constants reads as it is laid).
-/
import Derived.Test.YtmafefdchglpbaaDoorShaJ
namespace Go.Proofs.YtmafefdchglpbaaDoor
open Go.RowKit

theorem Tryd.info30h : (Tryd.prog.info? 25).map (·.size) = some 16 := by kernel_rfl
theorem nil_digest : dbytes (sha []).list = [0xe3, 0xb0, 0xc4, 0x42, 0x98, 0xfc, 0x1c, 0x14, 0x9a, 0xfb, 0xf4, 0xc8, 0x99, 0x6f, 0xb9, 0x24, 0x27, 0xae, 0x41, 0xe4, 0x64, 0x9b, 0x93, 0x4c, 0xa4, 0x95, 0x99, 0x1b, 0x78, 0x52, 0xb8, 0x55] := by decide +kernel
theorem awake_cell {w : World} {b : Nat} (h : RowIn w b 23 .u8 (dbytes (sha []).list)) (i : Nat) (v : Int) (hv : [0xe3, 0xb0, 0xc4, 0x42, 0x98, 0xfc, 0x1c, 0x14, 0x9a, 0xfb, 0xf4, 0xc8, 0x99, 0x6f, 0xb9, 0x24, 0x27, 0xae, 0x41, 0xe4, 0x64, 0x9b, 0x93, 0x4c, 0xa4, 0x95, 0x99, 0x1b, 0x78, 0x52, 0xb8, 0x55][i]? = some v) : w.cell? ⟨b, i, none⟩ = some (.int .u8 v) := by
  rw [nil_digest] at h
  exact heap_cell h (by rw [List.getElem?_map, hv]; rfl)
/-- the bytes of the half digest of l -/
def hf (l : List Int) : Array Value := (((dbytes (sha l).list).take 16).map (Value.int .u8)).toArray
def HalfRes (w : World) (l : List Int) (e : Ending) (w' : World) : Prop := e = .returned (.agg (hf l)) ∧ Below w.heap.size w w'

set_option maxRecDepth 100000 in
set_option maxHeartbeats 1000000 in
theorem awake_any (w : World) (hk : KayIn w) (hk0 : 2 < w.heap.size) :
    Calls Tryd.prog 13 #[] w fun e w' => e = .returned (.bool true) ∧ Below w.heap.size w w' := by
  have HK := Lib.hid hk; clear hk
  go_enter Tryd.func13, Tryd.ntmps13
  go_wp2_with fail
  refine (Sum_any none 0 0 [] w ⟨rfl, fun x hx => by simp at hx, fun h => absurd h (by omega)⟩ HK.out hk0 (by omega)).mono ?_
  rintro e w1 ⟨rfl, hb1⟩
  have HD := Lib.hid (heap_alloc_new w1 (.cells (Array.replicate 32 (Value.int .u8 0)) 23))
  go_wp2_with (refine wpList_store_row rfl 23 _ _ rfl w1.heap.size _ rfl rfl 23 _ HD.out (dg_info _) (by rw [dg_size]; rfl) (dg_one _) ?_; generalize hw2 : World.setRow _ _ _ = w2; have hg2 : RowIn w2 w1.heap.size 23 .u8 (dbytes (sha []).list) := (by rw [← hw2]; exact setRow_heap _ _ _ _ _ _ HD.out); have hb2 : Below w1.heap.size w1 w2 := (by rw [← hw2]; exact below_setRow (below_alloc _ _) (Nat.le_refl _) _); have c0 := awake_cell hg2 0 227 rfl; have c1 := awake_cell hg2 1 176 rfl; have c31 := awake_cell hg2 31 85 rfl; clear hw2 hg2)
  go_ret
  exact ⟨rfl, hb1.trans (hb2.mono hb1.size)⟩
end Go.Proofs.YtmafefdchglpbaaDoor
