/-
  One-time signatures: halves as lists of bytes; leafBytes; Half of parts that lie in memory (condition: the table of constants reads as it is laid).
-/
import Derived.Test.YtkeieacmboidoaaDoorHalf
import Derived.Test.YtkeieacmboidoaaDoorOneF
import Derived.Test.YtkeieacmboidoaaDoorTreeM
namespace Go.Proofs.YtkeieacmboidoaaDoor
open Go.RowKit Go.Proofs.YtkeieacmboidoaaDoor.One

/-- 16 bytes -/
def H16 (l : List Int) : Prop := l.length = 16 ∧ Byt l
/-- the first half of the digest of l -/
def hfB (l : List Int) : List Int := (dbytes (sha l).list).take 16
theorem hfB_H16 (l : List Int) : H16 (hfB l) := ⟨by simp [hfB, dbytes_length, St.list_length], (dbytes_byt _).take 16⟩
/-- a half as an array's value -/
def hvA (h : List Int) : Array Value := (h.map (Value.int .u8)).toArray
theorem hf_hvA (l : List Int) : hf l = hvA (hfB l) := rfl
theorem info_h {h : List Int} (hh : H16 h) : (Tryd.prog.info? 23).map (·.size) = some (hvA h).size := by
  rw [show (hvA h).size = 16 by simp [hvA, hh.1]]; exact Tryd.info30h
theorem size_h {h : List Int} (hh : H16 h) : (Array.replicate 16 (Value.int .u8 0)).size = (hvA h).size := by simp [hvA, hh.1]
theorem one_h (h : List Int) : (hvA h).all (·.oneCell') = true := oneCell_map _ _
def lb1 (leaf : Int) : Int := leaf / 256 % 256
def lb0 (leaf : Int) : Int := leaf % 256
theorem mod_byt (x : Int) : 0 ≤ x % 256 ∧ x % 256 < 256 := by omega
theorem one_byt (x : Int) : Byt [x % 256] := fun y hy => by rw [List.mem_singleton.1 hy]; omega
theorem two_byt (x y : Int) : Byt [x % 256, y % 256] := fun z hz => by
  simp only [List.mem_cons, List.not_mem_nil, or_false] at hz
  rcases hz with rfl | rfl <;> omega
/-- Half of parts that were laid into a row of their own -/
theorem halfN (ps : List Part) (w : World) (hs : ∀ q ∈ ps, Src w w.heap.size q.sp q.n q.cap q.b) (hk : KayIn w) (hk0 : 0 < w.heap.size) (hbd : (cat ps).length ≤ 1099511627776) (hnp : ps.length ≤ 1099511627776) :
    Calls Tryd.prog 23 #[.slice (some ⟨w.heap.size, 0, none⟩) ps.length ps.length] (w.alloc (.cells (ps.map Part.val).toArray 50)) fun e w' => e = .returned (.agg (hvA (hfB (cat ps)))) ∧ Below w.heap.size w w' := by
  have hba := below_alloc w (.cells (ps.map Part.val).toArray 50)
  have hsa := alloc_size w (.cells (ps.map Part.val).toArray 50)
  have hga := heap_alloc_new w (.cells (ps.map Part.val).toArray 50)
  generalize World.alloc w _ = w6 at *
  have hp : PartsIn w6 w6.heap.size (some ⟨w.heap.size, 0, none⟩) ps.length ps := by
    refine parts_block (ps := ps) hga (by omega) ?_
    intro q hq
    exact ((hs q hq).below hba (Nat.le_refl _)).more (by omega)
  refine (Half_any _ ps.length ps.length ps w6 hp (hk.below hba hk0) (by omega) hbd hnp).mono fun e w' ⟨he, hb⟩ => ⟨he, hba.trans (hb.mono hba.size)⟩
set_option maxRecDepth 100000 in
set_option maxHeartbeats 1000000 in
theorem leafBytes_any (leaf : Int) (w : World) :
    Calls Tryd.prog 22 #[.int .i64 leaf] w fun e w' => e = .returned (.agg #[.int .u8 (lb1 leaf), .int .u8 (lb0 leaf)]) ∧ Below w.heap.size w w' := by
  go_enter Tryd.func22, Tryd.ntmps22
  go_wp2_with fail
  exact bodyPost_ret (results_cell_row (P := Tryd.prog) rfl _ _ w.heap.size 47 _ (0, 0) _ rfl (heap_alloc_new w _) Tryd.underlying47 rfl (by kernel_rfl)) rfl ⟨rfl, below_alloc _ _⟩
end Go.Proofs.YtkeieacmboidoaaDoor
