/-
  The walk of (*digest.hash).write: the hash takes the bytes of a slice (conditions: the hash lies in a block of its own behind the slice's and the table's, the lengths add up to at most 2^40).
-/
import Derived.Test.YtmafefdchglpbaaDoorShaD
import Derived.Test.YtmafefdchglpbaaDoorShaM
import Derived.Deep.RegionLaw
namespace Go.Proofs.YtmafefdchglpbaaDoor
open Go.RowKit

/-- a slice of bytes that reads as the list b, its block lies below B -/
structure Src (w : World) (B : Nat) (sp : Option Addr) (n cap : Nat) (b : List Int) : Prop where
  len : b.length = n
  byt : Byt b
  cells : 0 < n → ∃ bb off, sp = some ⟨bb, off, none⟩ ∧ bb < B ∧ n ≤ cap ∧ ∀ j, j < n → w.cell? ⟨bb, off + j, none⟩ = some (.int .u8 (b.getD j 0))
theorem Src.pos {w : World} {B : Nat} {sp : Option Addr} {n cap : Nat} {b : List Int} (h : Src w B sp n cap b) (hp : 0 < (b.map (Value.int .u8)).length) : ∃ ad, sp = some ad ∧ ∀ j v, (b.map (Value.int .u8))[j]? = some v → w.cell? (ad.add j) = some v := by
  have hl := h.len
  rw [List.length_map] at hp
  obtain ⟨bb, off, rfl, _, _, hc⟩ := h.cells (by omega)
  refine ⟨_, rfl, fun j v hv => ?_⟩
  have hj : j < b.length := by have := (List.getElem?_eq_some_iff.1 hv).1; simpa using this
  rw [getD_map _ _ _ 0 hj] at hv
  injection hv with hv
  rw [Addr.add_mid, hc j (by omega), hv]
theorem one_map (k : IntKind) (b : List Int) : ∀ v ∈ b.map (Value.int k), v.oneCell' = true := fun v hv => by
  simp at hv; obtain ⟨x, _, rfl⟩ := hv; rfl
theorem hcells_length (st : St) (rest : List Int) (used : Nat) (len : Int) (h : rest.length = 64) : (hcells st rest used len).length = 74 := by simp [hcells, St.list, h]
theorem Src.below {w w' : World} {B B' : Nat} {sp : Option Addr} {n cap : Nat} {b : List Int} (h : Src w B sp n cap b) (hb : Below B' w w') (hB : B ≤ B') : Src w' B sp n cap b :=
  ⟨h.len, h.byt, fun hn => by
    obtain ⟨bb, off, e, hlt, hc, hcell⟩ := h.cells hn
    exact ⟨bb, off, e, hlt, hc, fun j hj => (hb.cell (p := ⟨bb, off + j, none⟩) (by show bb < B'; omega)).trans (hcell j hj)⟩⟩

/-- what a call of write leaves -/
def WriteRes (hb : Nat) (w : World) (l : List Int) (e : Ending) (w' : World) : Prop :=
  e = .returned (.tuple #[]) ∧ (∃ st rest used len, HashIn w' hb st rest used len ∧ Has l st rest used len) ∧ Below hb w w'

theorem hcells_splice (st : St) (rest : List Int) (used : Nat) (len : Int) (k : Nat) (c : List Int) (h : rest.length = 64) (hk : k + c.length ≤ 64) :
    splice (hcells st rest used len) (8 + k) (c.map (Value.int .u8)) = hcells st (splice rest k c) used len := by
  unfold splice hcells
  have h8 : (st.list.map (Value.int .u32)).length = 8 := by simp [St.list]
  rw [List.take_append, h8, List.take_of_length_le (by omega), Nat.add_sub_cancel_left, List.take_append_of_le_length (by simp; omega)]
  rw [List.drop_append, h8, List.drop_eq_nil_of_le (by omega), List.nil_append, List.length_map]
  rw [show 8 + k + c.length - 8 = k + c.length by omega, List.drop_append_of_le_length (by simp; omega)]
  simp [List.map_take, List.map_drop]

theorem len58 : Tryd.prog.arrayLen 98 = 64 := by kernel_rfl
theorem und58 : Tryd.prog.underlying 98 = some (.array (Tryd.prog.arrayLen 98) (Tryd.prog.elem 98)) := by kernel_rfl
theorem size58 (w : World) : (sizeOf (Tryd.prog.elem 98)).run Tryd.prog w = .ok 1 w := by kernel_rfl
/-- the cut of the hash's rest -/
theorem slice_rest (hb used : Nat) (h : used < 64) (w : World) : (Instr.sliceAt 98 (.pointer (some ⟨hb, 8, none⟩)) (some (.int .i64 used)) none none).run Tryd.prog w = .ok (.slice (some ⟨hb, 8 + used, none⟩) (64 - used) (64 - used)) w := by
  rw [run_sliceAt_array_l w 98 _ und58 .i64 used (by omega) (by rw [len58]; omega), size58, len58]
  simp [slicedAt, Addr.add_mid, show 64 ≠ used by omega]
theorem slice_all (hb : Nat) (w : World) : (Instr.sliceAt 98 (.pointer (some ⟨hb, 8, none⟩)) none none none).run Tryd.prog w = .ok (.slice (some ⟨hb, 8, none⟩) 64 64) w := by
  rw [run_sliceAt_array_all w 98 _ und58, size58, len58]
  simp [slicedAt, Addr.add_mid]
theorem Tryd.info5b : (Tryd.prog.info? 5).map (·.size) = some 1 := by kernel_rfl

set_option maxRecDepth 100000 in
set_option maxHeartbeats 1000000 in
theorem write_small (hb : Nat) (sp : Option Addr) (n cap : Nat) (b l : List Int) (st : St) (rest : List Int) (used : Nat) (w : World) (hh : HashIn w hb st rest used l.length) (ha : Has l st rest used l.length)
    (hs : Src w hb sp n cap b) (hbd : l.length + n ≤ 1099511627776) (h0 : 0 < used) (h1 : used + n < 64) :
    Calls Tryd.prog 80 #[.pointer (some ⟨hb, 0, none⟩), .slice sp n cap] w (WriteRes hb w (l ++ b)) := by
  obtain rfl := hs.len
  have c73 := hh.lenAt
  have f73 := hh.free 73
  have c72 := hh.usedAt
  have HA := Lib.hid ha; have HS := Lib.hid hs; clear ha hs
  go_enter Tryd.func80, Tryd.ntmps80
  go_wp2_with fail
  generalize hw1 : World.setCell w _ _ = w1
  have hh1 : HashIn w1 hb st rest used ((l.length : Int) + b.length) := by rw [← hw1]; exact hh.stored 73 _ hh.rl (hcells_len _ _ _ _ _ hh.rl)
  have hbe1 : Below hb w w1 := by rw [← hw1]; exact (Below.refl hb w).setCell (p := ⟨hb, 73, none⟩) (Nat.le_refl _) _
  have HS1 := Lib.hid (HS.out.below hbe1 (Nat.le_refl _))
  clear hw1 c73 f73 c72 HS
  have c72 := hh1.usedAt
  have hn : (b.map (Value.int .u8)).length = Nat.min b.length (64 - used) := by rw [List.length_map, HS1.out.len]; exact (Nat.min_eq_left (by omega)).symm
  have HN := Lib.hid hn; clear hn
  have hsl := slice_rest hb used (by omega)
  have HB := Lib.hid hh1.blk
  have hpos := HS1.out.pos
  have HP := Lib.hid hpos; clear hpos
  have hfit : 8 + used + (b.map (Value.int .u8)).length ≤ (hcells st rest used ((l.length : Int) + b.length)).length := by rw [hcells_length _ _ _ _ hh1.rl, List.length_map, HS1.out.len]; omega
  have HF := Lib.hid hfit; clear hfit
  go_region_law (refine step_copy_splice rfl (.tmp 27) (.tmp 28) 34 34 rfl 5 Tryd.underlying34 Tryd.info5b _ _ _ _ _ _ rfl rfl hb (8 + used) _ 100 HB.out (b.map (Value.int .u8)) HN.out (fun h => ⟨rfl, HP.out h⟩) HF.out (one_map _ _) hb w1 ((Below.refl _ _).drew) (Nat.le_refl _) ?_; intro w2 hg2 hb2)
  have hh2 : HashIn w2 hb st (splice rest used b) used ((l.length : Int) + b.length) := ⟨by rw [hg2.out, hcells_splice _ _ _ _ _ _ hh1.rl (by rw [HS1.out.len]; omega)], by rw [length_splice _ _ _ (by rw [HS1.out.len, hh1.rl]; omega)]; exact hh1.rl⟩
  have hbe2 := hbe1.trans hb2
  clear hg2 hb2 c72 hsl HB HP HF HN hbe1
  have c72 := hh2.usedAt
  have f72 := hh2.free 72
  go_wp2
  generalize hw3 : World.setCell w2 _ _ = w3
  have hh3 : HashIn w3 hb st (splice rest used b) (used + b.length) ((l.length : Int) + b.length) := by
    rw [← hw3]; exact hh2.stored 72 (.int .i64 ((used + b.length : Nat) : Int)) hh2.rl (hcells_used _ _ _ _ _ hh2.rl)
  have hbe3 : Below hb w w3 := by rw [← hw3]; exact hbe2.setCell (p := ⟨hb, 72, none⟩) (Nat.le_refl _) _
  go_end0
  exact ⟨rfl, ⟨_, _, _, _, hh3, HA.out.small b hh.rl h1 HS1.out.byt⟩, hbe3⟩
end Go.Proofs.YtmafefdchglpbaaDoor
