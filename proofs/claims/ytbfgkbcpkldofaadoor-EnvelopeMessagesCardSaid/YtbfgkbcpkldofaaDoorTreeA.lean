/-
  The walks of digest.leftLeaves and digest.Tree (conditions: the list has at most 1000000 elements and reads as lists of 32 bytes; the table of constants reads as it is laid).
-/
import Derived.Test.YtbfgkbcpkldofaaDoorGg
import Derived.Test.YtbfgkbcpkldofaaDoorGm
import Derived.Deep.RegionHeld3
namespace Go.Proofs.YtbfgkbcpkldofaaDoor
open Go.RowKit

/-- a slice of digests, all below block B -/
structure DigsIn (w : World) (B : Nat) (da : Option Addr) (n cap : Nat) (l : List (List Int)) : Prop where
  len : l.length = n
  digs : Digs l
  cells : 0 < n → ∃ b off, da = some ⟨b, off, none⟩ ∧ b < B ∧ n ≤ cap ∧ ∀ i, i < n → w.rangeAt b (off + i * 32) ((l.getD i []).map (Value.int .u8))
theorem range_below {w w' : World} {b o B : Nat} {cs : List Value} (h : w.rangeAt b o cs) (hb : Below B w w') (hlt : b < B) : w'.rangeAt b o cs := fun j v hv => (hb.cell (p := ⟨b, o + j, none⟩) hlt).trans (h j v hv)
theorem DigsIn.below {w w' : World} {B B' : Nat} {da : Option Addr} {n cap : Nat} {l : List (List Int)} (h : DigsIn w B da n cap l) (hb : Below B' w w') (hB : B ≤ B') : DigsIn w' B' da n cap l :=
  ⟨h.len, h.digs, fun hn => by
    obtain ⟨b, off, e, hlt, hc, hr⟩ := h.cells hn
    exact ⟨b, off, e, by omega, hc, fun i hi => range_below (hr i hi) hb (by omega)⟩⟩
theorem DigsIn.takes {w : World} {B : Nat} {da : Option Addr} {n cap : Nat} {l : List (List Int)} (h : DigsIn w B da n cap l) (k : Nat) (hk : k ≤ n) : DigsIn w B da k cap (l.take k) :=
  ⟨by rw [List.length_take, h.len]; omega, h.digs.take k, fun hn => by
    obtain ⟨b, off, e, hlt, hc, hr⟩ := h.cells (by omega)
    refine ⟨b, off, e, hlt, by omega, fun i hi => ?_⟩
    have := hr i (by omega)
    rw [show (l.take k).getD i [] = l.getD i [] by simp [List.getD_eq_getElem?_getD, hi]]
    exact this⟩
theorem DigsIn.drops {w : World} {B b off n cap : Nat} {l : List (List Int)} (h : DigsIn w B (some ⟨b, off, none⟩) n cap l) (k : Nat) (hk : k ≤ n) : DigsIn w B (some ⟨b, off + k * 32, none⟩) (n - k) (cap - k) (l.drop k) :=
  ⟨by rw [List.length_drop, h.len], h.digs.drop k, fun hn => by
    obtain ⟨b', off', e, hlt, hc, hr⟩ := h.cells (by omega)
    injection e with e; injection e with e1 e2; subst e1 e2
    refine ⟨b, off + k * 32, rfl, hlt, by omega, fun i hi => ?_⟩
    have := hr (k + i) (by omega)
    rw [show off + (k + i) * 32 = off + k * 32 + i * 32 by omega] at this
    rw [show (l.drop k).getD i [] = l.getD (k + i) [] by simp [List.getD_eq_getElem?_getD]]
    exact this⟩

/-- a digest as an array's value -/
def dv (x : List Int) : Array Value := (x.map (Value.int .u8)).toArray
theorem dv_node (a b : List Int) : dv (nodeB a b) = dg (1 :: (a ++ b)) := rfl
theorem dv_size (x : List Int) (h : x.length = 32) : (dv x).size = 32 := by simp [dv, h]
theorem dv_one (x : List Int) : (dv x).all (·.oneCell') = true := oneCell_map _ _
theorem dv_info (x : List Int) (h : x.length = 32) : (Tryd.prog.info? 25).map (·.size) = some (dv x).size := by rw [dv_size x h]; exact Tryd.info25d
theorem dv_size32 (x : List Int) (h : x.length = 32) : (Array.replicate 32 (Value.int .u8 0)).size = (dv x).size := by rw [dv_size x h]; simp
def TreeRes (w : World) (l : List (List Int)) (e : Ending) (w' : World) : Prop := e = .returned (.agg (dv (tree l))) ∧ Below w.heap.size w w'
theorem build25 (w : World) : (Instr.build 25 #[]).run Tryd.prog w = .ok (.agg (dv (List.replicate 32 0))) w := by kernel_rfl

end Go.Proofs.YtbfgkbcpkldofaaDoor
