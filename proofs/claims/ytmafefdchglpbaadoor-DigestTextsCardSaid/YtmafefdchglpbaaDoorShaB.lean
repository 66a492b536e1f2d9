/-
  The walk of digest.schedule: of a block of 64 bytes it returns the 64 words (condition: the block's cells read as the list p of bytes).
-/
import Derived.Test.YtmafefdchglpbaaDoorProg
import Derived.Test.YtmafefdchglpbaaDoorShaA
import Derived.WalkKit
import Derived.WalkSpells
import Derived.WalkLawsBesides
import Derived.BigRegion
import Derived.Deep.QuietTactic
import Derived.BigQuiet
import Derived.Lib.Hide
import Derived.Deep.MidRow
import Derived.Laws.CopyOwn
namespace Go.Proofs.YtmafefdchglpbaaDoor
open Go.RowKit

theorem heap_cell {w : World} {g j : Nat} {L : List Value} {t : TypeId} {fr : Nat × Nat} {v : Value} (hg : w.heap[g]? = some (.cells L.toArray t fr)) (hv : L[j]? = some v) : w.cell? ⟨g, j, none⟩ = some v := by
  rw [cell_of_row w g j _ t fr hg]; simpa using hv
theorem getD_map {α β : Type} (l : List α) (f : α → β) (i : Nat) (d : α) (h : i < l.length) : (l.map f)[i]? = some (f (l.getD i d)) := by
  simp [List.getD_eq_getElem?_getD, List.getElem?_eq_getElem h]

/-- a row of numbers in block b -/
def RowIn (w : World) (b : Nat) (t : TypeId) (k : IntKind) (L : List Int) : Prop := w.heap[b]? = some (.cells (L.map (Value.int k)).toArray t (0, 0))
theorem RowIn.get {w : World} {b : Nat} {t : TypeId} {k : IntKind} {L : List Int} (h : RowIn w b t k L) (i : Nat) (hi : i < L.length) : w.cell? ⟨b, i, none⟩ = some (.int k (L.getD i 0)) :=
  heap_cell h (getD_map _ _ _ _ hi)
theorem RowIn.free {w : World} {b : Nat} {t : TypeId} {k : IntKind} {L : List Int} (h : RowIn w b t k L) (i : Nat) : w.frozen? ⟨b, i, none⟩ = false := frozen_of_row _ _ _ _ _ h
theorem RowIn.put {w : World} {b : Nat} {t : TypeId} {k : IntKind} {L : List Int} (h : RowIn w b t k L) (i : Nat) (v : Int) : RowIn (w.setCell ⟨b, i, none⟩ (.int k v)) b t k (L.set i v) := by
  unfold RowIn; rw [heap_setCell_same _ _ _ _ _ _ h]; simp [List.map_set]
theorem RowIn.put_other {w : World} {b : Nat} {t : TypeId} {k : IntKind} {L : List Int} (h : RowIn w b t k L) (a : Addr) (v : Value) (ha : b ≠ a.block) : RowIn (w.setCell a v) b t k L := by
  unfold RowIn; rw [heap_setCell_other _ _ _ _ ha]; exact h
theorem RowIn.drew {w : World} {b : Nat} {t : TypeId} {k : IntKind} {L : List Int} (h : RowIn w b t k L) : RowIn w.drew b t k L := h
theorem RowIn.lt {w : World} {b : Nat} {t : TypeId} {k : IntKind} {L : List Int} (h : RowIn w b t k L) : b < w.heap.size := by
  unfold RowIn at h; exact (Array.getElem?_eq_some_iff.1 h).1
theorem RowIn.alloc {w : World} {b : Nat} {t : TypeId} {k : IntKind} {L : List Int} (h : RowIn w b t k L) (o : Obj) : RowIn (w.alloc o) b t k L := by
  exact (heap_alloc_old w o h.lt).trans h
theorem RowIn.below {w w' : World} {b B : Nat} {t : TypeId} {k : IntKind} {L : List Int} (h : RowIn w b t k L) (hb : Below B w w') (hlt : b < B) : RowIn w' b t k L := by
  unfold RowIn; rw [hb.block b hlt]; exact h
theorem RowIn.setRow {w : World} {b : Nat} {t : TypeId} {k : IntKind} {L : List Int} (h : RowIn w b t k L) (M : List Int) : RowIn (w.setRow b (M.map (Value.int k)).toArray) b t k M := setRow_heap _ _ _ _ _ _ h
theorem oneCell_map (k : IntKind) (L : List Int) : (L.map (Value.int k)).toArray.all (·.oneCell') = true :=
  all_oneCell_toArray (fun v hv => by simp at hv; obtain ⟨n, _, rfl⟩ := hv; rfl)

/-- the memory of 'schedule' on the way: block B is the result's, block B + 1 holds the words L -/
structure SchedAt (B : Nat) (w wr : World) (L : List Int) : Prop where
  row : RowIn wr (B + 1) 128 .u32 L
  res : RowIn wr B 128 .u32 (List.replicate 64 0)
  bel : Below B w wr
  size : wr.heap.size = B + 2

theorem SchedAt.start (w : World) : SchedAt w.heap.size w ((w.alloc (.cells (Array.replicate 64 (Value.int .u32 0)) 128)).alloc (.cells (Array.replicate 64 (Value.int .u32 0)) 128)) (fillTo 64 []) :=
  ⟨heap_alloc2_new _ _ _, heap_alloc2_old _ _ _, ((Below.refl _ _).alloc (Nat.le_refl _) _).alloc (by simp) _, by simp⟩
theorem SchedAt.drew {B : Nat} {w wr : World} {L : List Int} (h : SchedAt B w wr L) : SchedAt B w wr.drew L := ⟨h.row, h.res, h.bel.drew, h.size⟩
theorem SchedAt.drewN {B : Nat} {w wr : World} {L : List Int} (h : SchedAt B w wr L) (n : Nat) : SchedAt B w (wr.drewN n) L := ⟨h.row, h.res, below_drewN h.bel n, h.size⟩
theorem SchedAt.put {B : Nat} {w wr : World} {L : List Int} (h : SchedAt B w wr L) (i : Nat) (v : Int) : SchedAt B w (wr.setCell ⟨B + 1, i, none⟩ (.int .u32 v)) (L.set i v) :=
  ⟨h.row.put i v, h.res.put_other _ _ (by simp), h.bel.setCell (by simp) _, by simp [World.setCell, h.size]⟩
theorem SchedAt.step {B : Nat} {w wr : World} {l : List Int} (h : SchedAt B w wr (fillTo 64 l)) (hl : l.length < 64) (v : Int) : SchedAt B w (wr.setCell ⟨B + 1, l.length, none⟩ (.int .u32 v)) (fillTo 64 (l ++ [v])) := by
  rw [← fillTo_set _ _ _ hl]; exact h.put _ _

def SchedRes (B : Nat) (w : World) (p : List Int) (e : Ending) (w' : World) : Prop := e = .returned (.agg ((words p).map (Value.int .u32)).toArray) ∧ Below B w w'

theorem Tryd.info64u : (Tryd.prog.info? 128).map (·.size) = some 64 := by kernel_rfl

set_option maxHeartbeats 1000000 in
theorem schedule_any (bb off cap : Nat) (p : List Int) (w : World) (hcap : 64 ≤ cap)
   (hc : ∀ j, j < 64 → w.cell? ⟨bb, off + j, none⟩ = some (.int .u8 (p.getD j 0))) (hbb : bb < w.heap.size)
   (hp : ∀ j, 0 ≤ p.getD j 0 ∧ p.getD j 0 < 256) :
    Calls Tryd.prog 110 #[.slice (some ⟨bb, off, none⟩) 64 cap] w (SchedRes w.heap.size w p) := by
  have HC := Lib.hid hc; clear hc
  have HP := Lib.hid hp; clear hp
  go_enter Tryd.func110, Tryd.ntmps110
  go_wp2
  go_loopw [11] (fun i wr => ∃ k : Nat, k ≤ 16 ∧ i = .int .i64 k ∧ SchedAt w.heap.size w wr (fillTo 64 (msg p k))) (fun i _ => 16 - (intOf i).toNat)
  case atStart => exact ⟨0, by omega, rfl, SchedAt.start w⟩
  case round =>
    obtain ⟨k, hk, rfl, hS⟩ := hrel
    by_cases hlt : k < 16
    · have c0 : wr.cell? ⟨bb, off + 4 * k, none⟩ = some (.int .u8 (p.getD (4 * k) 0)) := (hS.bel.cell (p := ⟨bb, off + 4 * k, none⟩) hbb).trans (HC.out (4 * k) (by omega))
      have c1 : wr.cell? ⟨bb, off + 4 * k + 1, none⟩ = some (.int .u8 (p.getD (4 * k + 1) 0)) := (hS.bel.cell (p := ⟨bb, off + 4 * k + 1, none⟩) hbb).trans (HC.out (4 * k + 1) (by omega))
      have c2 : wr.cell? ⟨bb, off + 4 * k + 2, none⟩ = some (.int .u8 (p.getD (4 * k + 2) 0)) := (hS.bel.cell (p := ⟨bb, off + 4 * k + 2, none⟩) hbb).trans (HC.out (4 * k + 2) (by omega))
      have c3 : wr.cell? ⟨bb, off + 4 * k + 3, none⟩ = some (.int .u8 (p.getD (4 * k + 3) 0)) := (hS.bel.cell (p := ⟨bb, off + 4 * k + 3, none⟩) hbb).trans (HC.out (4 * k + 3) (by omega))
      have b0 := HP.out (4 * k)
      have b1 := HP.out (4 * k + 1)
      have b2 := HP.out (4 * k + 2)
      have b3 := HP.out (4 * k + 3)
      generalize e0 : p.getD (4 * k) 0 = x0 at *
      generalize e1 : p.getD (4 * k + 1) 0 = x1 at *
      generalize e2 : p.getD (4 * k + 2) 0 = x2 at *
      generalize e3 : p.getD (4 * k + 3) 0 = x3 at *
      have E : Hid (wd p k = bits .or .u32 (bits .or .u32 (bits .or .u32 (x0 * 16777216) (x1 * 65536)) (x2 * 256)) x3) := by
        subst e0 e1 e2 e3; rfl
      clear e0 e1 e2 e3
      have hl : (fillTo 64 (msg p k)).length = 64 := fillTo_length _ _ (by rw [msg_length]; omega)
      have ct := hS.row.get k (by omega)
      have cf := hS.row.free k
      clear hl
      go_wp2
      go_region
      go_wp2
      go_roundw
      case rel =>
        refine ⟨k + 1, by omega, by go_num, ?_⟩
        have hs := (hS.step (by rw [msg_length]; omega) (wd p k)).drew
        rw [msg_length, ← msg_succ, E.out] at hs
        exact hs
      case measure => simp [intOf]; omega
    · obtain rfl : k = 16 := by omega
      rw [show ((16 : Nat) : Int) = 16 from rfl]
      go_wp2
      go_loopw [6] (fun i wr => ∃ k : Nat, k ≤ 48 ∧ i = .int .i64 ((k : Int) + 16) ∧ SchedAt w.heap.size w wr (fillTo 64 (sched (msg p 16) k))) (fun i _ => 64 - (intOf i).toNat)
      case atStart => exact ⟨0, by omega, rfl, hS⟩
      case round =>
        clear hS
        obtain ⟨k, hk, rfl, hS⟩ := hrel
        by_cases hlt : k < 48
        · have hl : (fillTo 64 (sched (msg p 16) k)).length = 64 := fillTo_length _ _ (by rw [sched_length, msg_length]; omega)
          have c0 := hS.row.get k (by omega)
          have c1 := hS.row.get (k + 1) (by omega)
          have c9 := hS.row.get (k + 9) (by omega)
          have c14 := hS.row.get (k + 14) (by omega)
          have c16 := hS.row.get (k + 16) (by omega)
          have cf := hS.row.free (k + 16)
          have E : Hid (wnext (sched (msg p 16) k) k = ad (ad (ad ((fillTo 64 (sched (msg p 16) k)).getD k 0) (sm0 ((fillTo 64 (sched (msg p 16) k)).getD (k + 1) 0))) ((fillTo 64 (sched (msg p 16) k)).getD (k + 9) 0)) (sm1 ((fillTo 64 (sched (msg p 16) k)).getD (k + 14) 0))) := by
            have hn : (sched (msg p 16) k).length = k + 16 := by rw [sched_length, msg_length]; omega
            rw [fillTo_getD _ _ _ (by omega), fillTo_getD _ _ _ (by omega), fillTo_getD _ _ _ (by omega), fillTo_getD _ _ _ (by omega)]; rfl
          clear hl
          generalize (fillTo 64 (sched (msg p 16) k)).getD k 0 = y0 at *
          generalize (fillTo 64 (sched (msg p 16) k)).getD (k + 1) 0 = y1 at *
          generalize (fillTo 64 (sched (msg p 16) k)).getD (k + 9) 0 = y9 at *
          generalize (fillTo 64 (sched (msg p 16) k)).getD (k + 14) 0 = y14 at *
          generalize (fillTo 64 (sched (msg p 16) k)).getD (k + 16) 0 = y16 at *
          go_wp2_with fail
          go_quiet (fail)
          go_wp2_with fail
          with_reducible refine (rotl_7 _ _).mono ?_
          rintro e w' ⟨rfl, rfl⟩
          go_wp2_with fail
          with_reducible refine (rotl_18 _ _).mono ?_
          rintro e w' ⟨rfl, rfl⟩
          go_wp2_with fail
          with_reducible refine (rotl_17 _ _).mono ?_
          rintro e w' ⟨rfl, rfl⟩
          go_wp2_with fail
          with_reducible refine (rotl_19 _ _).mono ?_
          rintro e w' ⟨rfl, rfl⟩
          go_wp2_with fail
          go_region
          go_wp2
          go_roundw
          case rel =>
            refine ⟨k + 1, by omega, by go_num, ?_⟩
            have hn : (sched (msg p 16) k).length = k + 16 := by rw [sched_length, msg_length]; omega
            have hs := (hS.drewN (nq + 1)).step (by omega) (wnext (sched (msg p 16) k) k)
            rw [hn, E.out] at hs
            have hu : sched (msg p 16) (k + 1) = sched (msg p 16) k ++ [wnext (sched (msg p 16) k) k] := rfl
            rw [hu, E.out]
            simpa [ad, sm0, sm1, xr] using hs
          case measure => simp [intOf]; omega
        · obtain rfl : k = 48 := by omega
          have H1 := Lib.hid hS.row; have H2 := Lib.hid hS.res
          have hi1 : (Tryd.prog.info? 128).map (·.size) = some ((fillTo 64 (sched (msg p 16) 48)).map (Value.int .u32)).toArray.size := by
            rw [List.size_toArray, List.length_map, fillTo_length _ _ (by rw [sched_length, msg_length]; omega)]; exact Tryd.info64u
          have HI := Lib.hid hi1; clear hi1
          go_wp2_with (first
            | (refine wpList_load_row rfl 128 _ rfl (w.heap.size + 1) rfl 128 _ (0, 0) _ H1.out Tryd.underlying128 rfl HI.out ?_)
            | (refine wpList_store_row rfl 128 _ _ rfl w.heap.size _ rfl rfl 128 _ H2.out HI.out ?hold (oneCell_map _ _) ?_))
          case hold => rw [List.size_toArray, List.size_toArray, List.length_map, List.length_map, fillTo_length _ _ (by rw [sched_length, msg_length]; omega)]; rfl
          refine bodyPost_ret (results_cell_row (P := Tryd.prog) rfl _ _ w.heap.size 128 _ (0, 0) _ rfl (H2.out.setRow _) Tryd.underlying128 rfl HI.out) rfl ⟨?_, ?_⟩
          · rw [fillTo_full _ _ (by rw [sched_length, msg_length])]; rfl
          · exact below_setRow hS.bel (Nat.le_refl _) _
end Go.Proofs.YtmafefdchglpbaaDoor
