/-
  One-time signatures: the walk of slices.AppendSeq at numbers, over baseFour's iterator (conditions: what is appended fits into the slice's capacity).
-/
import Derived.Test.YtkeieacmboidoaaDoorOneC
import Derived.RangeFuncBox
import Derived.RangeFuncCalls
import Derived.RangeFuncLeaves
import Derived.RangeFuncKeeps
namespace Go.Proofs.YtkeieacmboidoaaDoor
open Go.RowKit Go.Shelf Go.Proofs.YtkeieacmboidoaaDoor.One
attribute [local go_sem] Oper.semAt_some

/-- the caller's cell between two rounds -/
structure AppN (w : World) (bx base g cap : Nat) (l0 pre : List Int) (W : World) : Prop where
  row : ∃ v, Boxed W bx 45 v ∧ W.ownsRow base 3 1 v (l0.length + pre.length) (nv (l0 ++ pre)) ∧ v = .slice (some ⟨g, 0, none⟩) (l0.length + pre.length) cap
  below : Below base w W
  big : bx + 1 ≤ W.heap.size
  oth : ∀ k, k < w.heap.size → k ≠ g → W.heap[k]? = w.heap[k]?
theorem appN_own (w : World) (bx base g cap : Nat) (l0 : List Int) (B : Nat) (h1 : base ≤ w.heap.size) (h2 : base ≤ B) (h3 : w.heap.size ≤ bx) (h4 : w.heap.size ≤ B) : OwnFrom B (AppN w bx base g cap l0) := fun pre X Y row h hg hrow =>
  ⟨(Own.from (holdsRow_own base bx 45 3 1 (fun pre : List Int => l0.length + pre.length) (fun pre => nv (l0 ++ pre)) (fun pre v => v = .slice (some ⟨g, 0, none⟩) (l0.length + pre.length) cap)) B) pre X Y row h.row hg hrow,
   ownFrom_below h1 h2 pre X Y row h.below hg hrow, Nat.le_trans h.big hg.size, fun k hk hkg => (hg.block k (by have := h.big; omega) (fun e => by have := (hrow k e.symm).1; omega)).trans (h.oth k hk hkg)⟩
theorem keep2_put {ba bb : Nat} {M : Nat} (hba : ba < M) (hbb : bb < M) (W : World) (l : Nat) (o o' : Obj) (hl : M ≤ l) (_ : W.heap[l]? = some o) (_ : o.isCells = false) (_ : o.isWalk = false) : Keep2 ba bb W (W.putObj l o') :=
  ⟨by simp, World.putObj_heap_other (by omega), World.putObj_heap_other (by omega)⟩
theorem oth_append {b6 : Nat} {X Y : World} {g : Nat} {tmp : Obj} (hg : (X.alloc tmp).grownBy Y (some g)) (v : Value) (k : Nat) (hk : k < X.heap.size) (hk6 : k ≠ b6) (hkr : k ≠ g) : (Y.setCell ⟨b6, 0, none⟩ v).heap[k]? = X.heap[k]? :=
  (Below.heap_setCell Y ⟨b6, 0, none⟩ v k hk6).trans ((hg.block k (by rw [World.size_alloc]; omega) (fun e => hkr (by injection e))).trans (Below.heap_alloc X tmp k hk))
theorem keep2_append {ba bb b6 : Nat} {X Y : World} {g : Nat} {tmp : Obj} (hg : (X.alloc tmp).grownBy Y (some g)) (v : Value) (h1 : ba ≠ g) (h2 : bb ≠ g) (h3 : ba < X.heap.size) (h4 : bb < X.heap.size) (h5 : ba ≠ b6) (h6 : bb ≠ b6) :
    Keep2 ba bb X (Y.setCell ⟨b6, 0, none⟩ v) := by
  have hs := hg.size
  rw [World.size_alloc] at hs
  have go : ∀ k, k < X.heap.size → k ≠ b6 → k ≠ g → (Y.setCell ⟨b6, 0, none⟩ v).heap[k]? = X.heap[k]? := fun k hk hk6 hkr =>
    (Below.heap_setCell Y ⟨b6, 0, none⟩ v k hk6).trans ((hg.block k (by rw [World.size_alloc]; omega) (fun e => hkr (by injection e))).trans (Below.heap_alloc X tmp k hk))
  exact ⟨by show _ ≤ (Y.heap.modify _ _).size; rw [Array.size_modify]; omega, go ba h3 h5 h1, go bb h4 h6 h2⟩
def apsFr (ba g n cap bx : Nat) (x : Int) : Act := { tmps := #[.slice (some ⟨g, 0, none⟩) n cap, .func (.func 31) #[] #[.pointer (some ⟨ba, 0, none⟩)], .pointer (some ⟨bx, 0, none⟩), undef, .slice none 0 0, .int .i64 x, .func (.func 31) #[] #[.pointer (some ⟨ba, 0, none⟩)], .int .i64 x, undef, undef, undef, undef, undef], defers := [] }
set_option maxRecDepth 100000 in
set_option maxHeartbeats 4000000 in
theorem appendSeqN_any (ba bb off na ca : Nat) (a : List Int) (g cap : Nat) (l0 : List Int) (base : Nat) (w : World) (hna : na ≤ 1000000) (hfit : l0.length + 4 * a.length ≤ cap)
    (hown : OwnN w base (.slice (some ⟨g, 0, none⟩) l0.length cap) l0) (hbase : base ≤ w.heap.size) (hba : ba < w.heap.size) (hbb : bb < w.heap.size) (hag : ba ≠ g) (hbg : bb ≠ g) (hc : BfIn w ba bb off na ca a) :
    Calls Tryd.prog 28 #[.slice (some ⟨g, 0, none⟩) l0.length cap, .func (.func 31) #[] #[.pointer (some ⟨ba, 0, none⟩)]] w fun e w' =>
      e = .returned (.slice (some ⟨g, 0, none⟩) (l0 ++ a.flatMap digB).length cap) ∧ OwnN w' base (.slice (some ⟨g, 0, none⟩) (l0 ++ a.flatMap digB).length cap) (l0 ++ a.flatMap digB) ∧ Below base w w' ∧ ∀ k, k < w.heap.size → k ≠ g → w'.heap[k]? = w.heap[k]? := by
  have HC := Lib.hid hc; have HOWN := Lib.hid hown; clear hc hown
  have HB := Lib.hid (heap_alloc_new w (.cells #[Value.slice (some ⟨g, 0, none⟩) l0.length cap] 45))
  refine (callsIn_wide (n := 8)).1 ?_
  refine callsIn_of_wp_marks Tryd.func28 rfl trivial ?_ rfl
  simp only [Tryd.ntmps28, List.size_toArray, List.length_cons, List.length_nil, Nat.reduceAdd, Nat.reduceSub, Array.replicate_succ, Array.replicate_zero, List.push_toArray, List.append_toArray, List.nil_append, List.cons_append]
  gi_wp2_with fail
  generalize hw1 : World.alloc w _ = w1
  have hb1 : Below w.heap.size w w1 := by rw [← hw1]; exact (Below.refl _ w).alloc (Nat.le_refl _) _
  have hz1 : w1.heap.size = w.heap.size + 1 := by rw [← hw1]; simp
  have r2 : Boxed w1 w.heap.size 45 (.slice (some ⟨g, 0, none⟩) l0.length cap) := by show w1.heap[_]? = _; rw [← hw1]; exact HB.out
  clear hw1 HB
  generalize hbx : w.heap.size = bx at *
  have HSB : Hid (BfIn w1 ba bb off na ca a) := HC.out.keep (Keep2.of_below hb1 hba hbb)
  have HIN : Hid (AppN w bx base g cap l0 [] w1) := ⟨⟨_, r2, by have := HOWN.out.below (hbx ▸ hb1); rw [List.append_nil]; exact this, rfl⟩, hb1.mono hbase, by omega, fun k hk _ => hb1.block k (hbx ▸ hk)⟩
  have HN : Hid (a.length = na) := HC.out.len
  have hz1a : bx + 1 ≤ w1.heap.size := by omega
  have hz1b : w1.heap.size ≤ bx + 1 := by omega
  have HBX := Lib.hid hbx
  have hI := appN_own w bx base g cap l0 w1.heap.size (by omega) (by omega) (by omega) (by omega)
  clear r2 hb1 hz1 hbx
  have HIo := Lib.hid hI
  refine wpIn_rangeFunc_ownF (α := Int) rfl (by decide) (gf := 31) (lb := #[.pointer (some ⟨ba, 0, none⟩)]) rfl trivial (enters_of Tryd.func31 (by kernel_rfl) rfl)
    (four_stops 7 (by decide) ba bb off na ca a hna w1 (by omega) (by omega) HSB.out)
    Keep2.trans (keep2_put (by omega) (by omega)) (Below.refl _ _) (fun _ => rfl) (AppN w bx base g cap l0) (fun _ _ _ => False) hI (fun _ _ _ _ _ h _ _ => h) HIN.out
    (fun x => apsFr ba g l0.length cap bx x) ?assign ?body ?done ?stop
  clear hI
  case assign =>
    intro l x W K hK
    have HK := Lib.hid hK
    clear hK
    simp only [encN, List.zip_toArray, List.zip_cons_cons, List.zip_nil_right, List.foldl_toArray, List.foldl_cons, List.foldl_nil, List.setIfInBounds_toArray, List.set_cons_succ, List.set_cons_zero]
    gi_wp2_with fail
    exact HK.out
  case body =>
    rintro l pre x W hin hlen
    have hbig := hin.big
    have HFI := Lib.hid hin
    obtain ⟨v, hv, hrow, rfl⟩ := hin.row
    have HV := Lib.hid hv; have HROW := Lib.hid hrow
    have hc6 := hv.cell
    have hf6 := hv.frozen
    have hkl : l0.length + pre.length + 1 ≤ cap := by omega
    have HKL := Lib.hid hkl
    have hbx := HBX.out
    have hbaseW : base ≤ W.heap.size := by omega
    obtain ⟨i0, hi0, hz0, hz1, hz2⟩ := info_partsN infoI1
    have HI0 := Lib.hid hi0; have HZ1 := Lib.hid hz1
    clear hv hrow hin hbx hi0 hz0 hz1 hz2
    unfold apsFr
    gi_wp2_with (refine wpListIn_append_fits _ rfl (.tmp 8) (.tmp 10) _ rfl base _ i0 1 Tryd.underlying45 HI0.out HZ1.out g (l0.length + pre.length) cap (nv (l0 ++ pre)) rfl (HROW.out.alloc _) ⟨W.heap.size, 0, none⟩ 1 1 [.int .i64 x] rfl rfl (cell_oneN W x) (by intro u hu; simp at hu; subst hu; rfl) HKL.out ?_; intro W5 HO5 HG5; have HO5' := Lib.hid HO5; have HG5' := Lib.hid HG5; have happ := HV.out.appended (by decide) HROW.out hbaseW (by omega : base ≤ bx) HO5'.out HG5'.out; have hc7 := happ.1.cell; have hf7 := happ.1.frozen; have HAPP := Lib.hid happ; clear happ HO5 HG5)
    obtain ⟨-, hp2, hp3, hp4, hp5⟩ := HAPP.out
    have hk4 := keep2_append HG5'.out (.slice (some ⟨g, 0, none⟩) (l0.length + pre.length + 1) cap) hag hbg (by omega : ba < W.heap.size) (by omega : bb < W.heap.size) (by omega : ba ≠ bx) (by omega : bb ≠ bx)
    refine ⟨hp4, hk4, ⟨_, hp2, ?_, ?_⟩, HFI.out.below.trans hp5, Nat.le_trans HFI.out.big hk4.1, fun k hk hkg => (oth_append HG5'.out _ k (by have := HBX.out; omega) (by have := HBX.out; omega) hkg).trans (HFI.out.oth k hk hkg)⟩
    · rw [← List.append_assoc, nv_snoc, List.length_append]; exact hp3
    · rw [List.length_append]; rfl
  case done =>
    rintro D xs W hD hS hin hK
    have HS := Lib.hid hS; clear hS
    obtain ⟨v, hv, hrow, rfl⟩ := hin.row
    have hc6 := hv.cell
    have HROW := Lib.hid hrow; have HFI := Lib.hid hin; have HKs := Lib.hid hK
    clear hin hrow hK
    have HBX2 := HBX.out
    have hD2 : base ≤ D := by omega
    gi_wp2_with fail
    refine ⟨by simp, .inl ⟨_, _, rfl, run_takeDeferred HKs.out, ?_⟩⟩
    refine ⟨.slice (some ⟨g, 0, none⟩) (l0.length + xs.length) cap, ?_, ?_⟩
    · simp [results, Tryd.f28, go_sem]
    · have hS : xs = a.flatMap digB := HS.out
      rw [← hS, List.length_append]
      refine ⟨rfl, ?_, HFI.out.below.trans (belowK_b (w := w1) (by omega) W D _ _ (by omega) HKs.out rfl rfl), fun k hk hkg => (World.putObj_heap_other (by omega)).trans (HFI.out.oth k (by omega) hkg)⟩
      show World.ownsRow _ _ _ _ _ _ _
      rw [List.length_append]
      exact ownsRow_putObj HROW.out _ HKs.out rfl
  case stop =>
    rintro D c pre W hD hSp hout hK
    exact hout.elim
end Go.Proofs.YtkeieacmboidoaaDoor
