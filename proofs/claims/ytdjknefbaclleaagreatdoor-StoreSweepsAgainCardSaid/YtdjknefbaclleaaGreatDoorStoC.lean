/-
  The walks of bytes.Compare, compare and byDigest (conditions: digests of 32 bytes).
-/
import Derived.Test.YtdjknefbaclleaaGreatDoorGh
namespace Go.Proofs.YtdjknefbaclleaaGreatDoor
open Go.RowKit

set_option maxRecDepth 100000 in
set_option maxHeartbeats 400000 in
theorem bcompare_any (b1 o1 n1 c1 : Nat) (xs : List Int) (b2 o2 n2 c2 : Nat) (ys : List Int) (hx : xs.length = n1) (hy : ys.length = n2) (w : World)
    (h1 : ∀ i, i < n1 → w.cell? ⟨b1, o1 + i, none⟩ = some (.int .u8 (xs.getD i 0))) (h2 : ∀ i, i < n2 → w.cell? ⟨b2, o2 + i, none⟩ = some (.int .u8 (ys.getD i 0))) :
    Calls Tryz.prog 37 #[.slice (some ⟨b1, o1, none⟩) n1 c1, .slice (some ⟨b2, o2, none⟩) n2 c2] w fun e w' => e = .returned (.int .i64 (Lib.compareBytes (Lib.bytesOf xs) (Lib.bytesOf ys))) ∧ w = w' := by
  have HR := Lib.hid (run_compareRows (P := Tryz.prog) b1 o1 n1 c1 xs b2 o2 n2 c2 ys hx hy h1 h2)
  go_enter Tryz.func37, Tryz.ntmps37
  go_wp2
  rw [run_callFunc_extern Tryz.func54 (by kernel_rfl) (by kernel_rfl) (by kernel_rfl) (e := Extern.BytealgCompare.compare) (by kernel_rfl), HR.out]
  simp only [Result.andThen]
  rw [Oper.upon_value]
  go_wp2
  go_ret
  exact ⟨rfl, rfl⟩
def cmpD (a b : List Int) : Int := Lib.compareBytes (Lib.bytesOf a) (Lib.bytesOf b)
theorem cmpD_ge {a b : List Int} (ha : D32 a) (hb : D32 b) : decide (cmpD a b ≥ 0) = !dls a b := cmpBy_zero a b (fun x hx => ha.2 x hx) (fun x hx => hb.2 x hx)
set_option maxRecDepth 100000 in
set_option maxHeartbeats 400000 in
theorem compare_any (a b : List Int) (w : World) (ha : D32 a) (hb : D32 b) :
    Calls Tryz.prog 17 #[.agg (dv a), .agg (dv b)] w fun e w' => e = .returned (.int .i64 (cmpD a b)) ∧ Below w.heap.size w w' := by
  have h1 : ∀ i, i < 32 → ((w.alloc (.cells (dv a) 29)).alloc (.cells (dv b) 29)).cell? ⟨w.heap.size, 0 + i, none⟩ = some (.int .u8 (a.getD i 0)) := by
    intro i hi
    have := (World.cell?_of_block (a := ⟨w.heap.size, i, none⟩) (Below.heap_alloc (w.alloc (.cells (dv a) 29)) (.cells (dv b) 29) w.heap.size (by simp)))
    rw [Nat.zero_add, this]
    exact cellB_newG w 29 a i (by rw [ha.1]; exact hi)
  have h2 : ∀ i, i < 32 → ((w.alloc (.cells (dv a) 29)).alloc (.cells (dv b) 29)).cell? ⟨w.heap.size + 1, 0 + i, none⟩ = some (.int .u8 (b.getD i 0)) := by
    intro i hi
    have := cellB_newG (w.alloc (.cells (dv a) 29)) 29 b i (by rw [hb.1]; exact hi)
    rw [World.size_alloc] at this
    rw [Nat.zero_add]; exact this
  have HB := Lib.hid (((Below.refl w.heap.size w).alloc (Nat.le_refl _) (.cells (dv a) 29)).alloc (by simp) (.cells (dv b) 29))
  have HC := Lib.hid (fun c1 c2 => bcompare_any w.heap.size 0 32 c1 a (w.heap.size + 1) 0 32 c2 b ha.1 hb.1 (((w.alloc (.cells (dv a) 29)).alloc (.cells (dv b) 29)).drew) h1 h2)
  clear h1 h2
  go_enter Tryz.func17, Tryz.ntmps17
  go_wp2_with fail
  go_region_with (go_at_call 37; (with_reducible refine (HC.out _ _).mono ?_); rintro e w' ⟨rfl, rfl⟩)
  all_goals
    go_wp2_with fail
    go_ret
    exact ⟨rfl, HB.out.drew⟩
set_option maxRecDepth 100000 in
set_option maxHeartbeats 400000 in
theorem byDigest_any (x y : Bl) (w : World) (hx : OkB x) (hy : OkB y) :
    Calls Tryz.prog 52 #[.agg (blL x).toArray, .agg (blL y).toArray] w fun e w' => e = .returned (.int .i64 (cmpD x.d y.d)) ∧ Below w.heap.size w w' := by
  have HIX := Lib.hid (info_d hx); have HIY := Lib.hid (info_d hy)
  have hb2 : BlB ((w.alloc (.cells (blL x).toArray 50)).alloc (.cells (blL y).toArray 50)) w.heap.size x :=
    (BlB.new w x).below (B := w.heap.size + 1) ((Below.refl _ _).alloc (by simp) _) (by omega)
  have hc2 : BlB ((w.alloc (.cells (blL x).toArray 50)).alloc (.cells (blL y).toArray 50)) (w.heap.size + 1) y := by
    have := BlB.new (w.alloc (.cells (blL x).toArray 50)) y
    rwa [World.size_alloc] at this
  have HX := Lib.hid hb2.d; have HY := Lib.hid hc2.d
  have HB := Lib.hid (((Below.refl w.heap.size w).alloc (Nat.le_refl _) (.cells (blL x).toArray 50)).alloc (by simp) (.cells (blL y).toArray 50))
  clear hb2 hc2
  have HC := Lib.hid (fun w' => compare_any x.d y.d w' hx hy)
  clear hx hy
  go_enter Tryz.func52, Tryz.ntmps52
  go_wp2_with (first
    | (refine wpList_load_mid rfl 29 _ rfl w.heap.size 0 rfl _ _ HX.out Tryz.underlying29 rfl HIX.out ?_)
    | (refine wpList_load_mid rfl 29 _ rfl (w.heap.size + 1) 0 rfl _ _ HY.out Tryz.underlying29 rfl HIY.out ?_))
  refine (HC.out _).mono ?_
  rintro e w' ⟨rfl, hb⟩
  have HB2 := Lib.hid hb; clear hb
  go_wp2_with fail
  go_ret
  exact ⟨rfl, HB.out.trans (HB2.out.mono HB.out.size)⟩
end Go.Proofs.YtdjknefbaclleaaGreatDoor
