/-
  The walk of follow: the changes that have the effect of two lists, one behind the other (conditions: digests of 32 bytes, at most 400000 elements each).
-/
import Derived.Test.YtkookkhlgllneaaDoorSnG
import Derived.RangeFuncFrom
import Derived.Shelf.Abstract
namespace Go.Proofs.YtkookkhlgllneaaDoor
open Go.RowKit Go.Shelf
attribute [local go_sem] Oper.semAt_some

/-- what the pairs leave -/
def outs (pre : List CP) : List Cg := (pre.map (·.1)).filterMap outP
theorem outs_ok (pre : List CP) : ∀ x ∈ outs pre, OkC x := by
  intro x hx
  obtain ⟨q, hq, e⟩ := List.mem_filterMap.1 hx
  obtain ⟨c, _, rfl⟩ := List.mem_map.1 hq
  unfold outP at e
  split at e
  · cases e
  · injection e with e; subst e; exact ⟨c.2.1.1, c.2.2.2⟩
theorem outs_length (pre : List CP) : (outs pre).length ≤ pre.length := by
  unfold outs; exact Nat.le_trans (List.length_filterMap_le _ _) (by simp)
theorem length_sbs : ∀ (a b : List Cg), (sbs a b).length ≤ a.length + b.length
  | [], b => by rw [sbs_nil]; simp
  | x :: a, [] => by rw [sbs_nil_right]; simp
  | x :: a, y :: b => by
    by_cases h1 : pls x.p y.p = true
    · rw [sbs_lt h1]; have := length_sbs a (y :: b); simp at this ⊢; omega
    · have h1 : pls x.p y.p = false := by simpa using h1
      by_cases h2 : pls y.p x.p = true
      · rw [sbs_gt h1 h2]; have := length_sbs (x :: a) b; simp at this ⊢; omega
      · have h2 : pls y.p x.p = false := by simpa using h2
        rw [sbs_eq h1 h2]; have := length_sbs a b; simp at this ⊢; omega
termination_by a b => a.length + b.length
/-- what follow leaves -/
def FolRes (w : World) (r : Option (List Cg)) (e : Ending) (w' : World) : Prop := match r with
  | none => e = .returned (.tuple #[.slice none 0 0, .bool false]) ∧ Below w.heap.size w w'
  | some l => ∃ sp cap, e = .returned (.tuple #[.slice sp l.length cap, .bool true]) ∧ OwnC w' w.heap.size (.slice sp l.length cap) l ∧ Below w.heap.size w w'
/-- the caller's cells between two rounds -/
structure FolIn (w : World) (pre : List CP) (W : World) : Prop where
  ok : (pre.map (·.1)).all okP = true
  row : ∃ v, Boxed W (w.heap.size + 1 + 1) 40 v ∧ W.ownsRow w.heap.size 81 65 v (outs pre).length (rowsC (outs pre)) ∧ True
  res : Boxed W w.heap.size 40 (.slice none 0 0)
  bool : Boxed W (w.heap.size + 1) 4 (.bool false)
  below : Below w.heap.size w W
  big : w.heap.size + 5 ≤ W.heap.size
  ra : ∃ u, Boxed W (w.heap.size + 1 + 1 + 1) 40 u
  rb : ∃ u, Boxed W (w.heap.size + 1 + 1 + 1 + 1) 40 u
structure FolOut (w : World) (c : Code) (pre : List CP) (W : World) : Prop where
  c : c = .ret
  no : (pre.map (·.1)).all okP = false
  res : Boxed W w.heap.size 40 (.slice none 0 0)
  bool : Boxed W (w.heap.size + 1) 4 (.bool false)
  below : Below w.heap.size w W
theorem folIn_own (w : World) (B : Nat) (hB : w.heap.size ≤ B) : OwnFrom B (FolIn w) := fun pre X Y row h hg hrow =>
  ⟨h.ok, (Own.from (holdsRow_own w.heap.size (w.heap.size + 1 + 1) 40 81 65 (fun pre : List CP => (outs pre).length) (fun pre => rowsC (outs pre)) (fun _ _ => True)) B) pre X Y row h.row hg hrow,
   (Own.from (boxed_own w.heap.size 40 (fun _ : List CP => .slice none 0 0)) B) pre X Y row h.res hg hrow, (Own.from (boxed_own (w.heap.size + 1) 4 (fun _ : List CP => .bool false)) B) pre X Y row h.bool hg hrow,
   ownFrom_below (Nat.le_refl _) hB pre X Y row h.below hg hrow, Nat.le_trans h.big hg.size,
   h.ra.elim fun u hu => ⟨u, (Own.from (boxed_own (w.heap.size + 1 + 1 + 1) 40 (fun _ : List CP => u)) B) pre X Y row hu hg hrow⟩,
   h.rb.elim fun u hu => ⟨u, (Own.from (boxed_own (w.heap.size + 1 + 1 + 1 + 1) 40 (fun _ : List CP => u)) B) pre X Y row hu hg hrow⟩⟩
theorem folOut_own (w : World) (B : Nat) (hB : w.heap.size ≤ B) (c : Code) : OwnFrom B (FolOut w c) := fun pre X Y row h hg hrow =>
  ⟨h.c, h.no, (Own.from (boxed_own w.heap.size 40 (fun _ : List CP => .slice none 0 0)) B) pre X Y row h.res hg hrow, (Own.from (boxed_own (w.heap.size + 1) 4 (fun _ : List CP => .bool false)) B) pre X Y row h.bool hg hrow,
   ownFrom_below (Nat.le_refl _) hB pre X Y row h.below hg hrow⟩
/-- where the two changes of a round lie -/
def PairAt (f : Nat → Nat → Array Value) (q : CP) (a' : Act) (W : World) : Prop := ∃ bx by', CgB W bx q.1.1 ∧ CgB W by' q.1.2 ∧ a' = { tmps := f bx by', defers := [] }
/-- the frame of a round -/
def folFr (w : World) (spa : Option Addr) (na ca : Nat) (spb : Option Addr) (nb cb : Nat) (q : CP) (bx by' : Nat) : Array Value := #[.slice spa na ca, .slice spb nb cb, undef, undef, .pointer (some ⟨w.heap.size, 0, none⟩), .pointer (some ⟨w.heap.size + 1, 0, none⟩), .pointer (some ⟨w.heap.size + 1 + 1, 0, none⟩), .pointer (some ⟨bx, 0, none⟩), .pointer (some ⟨by', 0, none⟩), undef, .slice spa na ca, .slice spb nb cb, .func (.func 139) #[] #[.pointer (some ⟨w.heap.size + 1 + 1 + 1, 0, none⟩), .pointer (some ⟨w.heap.size + 1 + 1 + 1 + 1, 0, none⟩)], .agg (cgL q.1.1).toArray, .agg (cgL q.1.2).toArray, undef, undef, undef, undef, undef, undef, undef, undef, undef, undef, undef, undef, undef, undef, undef, undef, undef, undef, undef, undef]
theorem pairAt_own (f : CP → Nat → Nat → Array Value) (B : Nat) (q : CP) (a' : Act) : OwnFrom B (fun (_ : Unit) W => PairAt (f q) q a' W) := by
  rintro s X Y row ⟨bx, by', hx, hy, e⟩ hg hrow
  have keep : ∀ k x, CgB X k x → CgB Y k x := fun k x h => (hg.block k (Array.getElem?_eq_some_iff.1 h).1 (fun e => by
    obtain ⟨_, o, ho, hc⟩ := hrow k e.symm
    rw [show X.heap[k]? = _ from h] at ho; cases ho; cases hc)).trans h
  exact ⟨bx, by', keep _ _ hx, keep _ _ hy, e⟩
theorem keep3_append {B ba bb b6 : Nat} {X Y : World} {row : Option Nat} {tmp : Obj} (hg : (X.alloc tmp).grownBy Y row) (hrow : ∀ k, row = some k → B ≤ k ∧ k ≠ ba ∧ k ≠ bb) (v : Value) (h1 : B ≤ b6) (h2 : b6 ≠ ba) (h3 : b6 ≠ bb) (h4 : B ≤ X.heap.size) (h5 : ba < X.heap.size) (h6 : bb < X.heap.size) :
    Keep3 B ba bb X (Y.setCell ⟨b6, 0, none⟩ v) := by
  have hs := hg.size
  rw [World.size_alloc] at hs
  have go : ∀ k, k < X.heap.size → k ≠ b6 → some k ≠ row → (Y.setCell ⟨b6, 0, none⟩ v).heap[k]? = X.heap[k]? := fun k hk hk6 hkr =>
    (Below.heap_setCell Y ⟨b6, 0, none⟩ v k hk6).trans ((hg.block k (by rw [World.size_alloc]; omega) hkr).trans (Below.heap_alloc X tmp k hk))
  refine ⟨by show _ ≤ (Y.heap.modify _ _).size; rw [Array.size_modify]; omega, fun k hk => go k (by omega) (by omega) (fun e => by have := (hrow k e.symm).1; omega), go ba h5 (Ne.symm h2) (fun e => (hrow ba e.symm).2.1 rfl), go bb h6 (Ne.symm h3) (fun e => (hrow bb e.symm).2.2 rfl)⟩
theorem setRow_new2 (w : World) (o : Obj) (old cells : Array Value) (t : TypeId) : ((w.alloc o).alloc (.cells old t)).setRow (w.heap.size + 1) cells = (w.alloc o).alloc (.cells cells t) := by
  have := setRow_new (w.alloc o) old cells t
  rwa [World.size_alloc] at this
theorem keep3_put {B ba bb : Nat} {w : World} (hB : B ≤ w.heap.size) (hba : ba < w.heap.size) (hbb : bb < w.heap.size) (W : World) (l : Nat) (o o' : Obj) (hl : w.heap.size ≤ l) (_ : W.heap[l]? = some o) (_ : o.isCells = false) (_ : o.isWalk = false) : Keep3 B ba bb W (W.putObj l o') :=
  ⟨by simp, fun k hk => World.putObj_heap_other (by omega), World.putObj_heap_other (by omega), World.putObj_heap_other (by omega)⟩

set_option maxRecDepth 100000 in
set_option maxHeartbeats 4000000 in
theorem follow_any (spa : Option Addr) (na ca : Nat) (a : List Cg) (spb : Option Addr) (nb cb : Nat) (b : List Cg) (w : World) (hna : na ≤ 400000) (hnb : nb ≤ 400000) (ha : CgsIn w w.heap.size spa na ca a) (hb : CgsIn w w.heap.size spb nb cb b) :
    Calls Tryd.prog 62 #[.slice spa na ca, .slice spb nb cb] w (FolRes w (fol a b)) := by
  have HA := Lib.hid ha; have HBb := Lib.hid hb
  clear ha hb
  refine (callsIn_wide (n := 8)).1 ?_
  refine callsIn_of_wp_marks Tryd.func62 rfl trivial ?_ rfl
  simp only [Tryd.ntmps62, List.size_toArray, List.length_cons, List.length_nil, Nat.reduceAdd, Nat.reduceSub, Array.replicate_succ, Array.replicate_zero, List.push_toArray, List.append_toArray, List.nil_append, List.cons_append]
  gi_wp2_with fail
  refine ⟨trivial, ?_⟩
  refine (callsIn_wide.2 (sideBySide_any spa na ca spb nb cb _)).mono ?_
  rintro e w1 ⟨rfl, hw1⟩
  have HW1 := Lib.hid hw1; clear hw1
  gi_wp2_with fail
  have hb1 : Below w.heap.size w w1 := by rw [HW1.out]; exact (((((Below.refl _ w).alloc (Nat.le_refl _) _).alloc (by simp) _).alloc (by simp <;> omega) _).alloc (by simp <;> omega) _).alloc (by simp <;> omega) _
  have hz1 : w1.heap.size = w.heap.size + 5 := by rw [HW1.out]; simp
  have r4 : Boxed w1 w.heap.size 40 (.slice none 0 0) := by
    show w1.heap[_]? = _; rw [HW1.out]
    exact (Below.heap_alloc _ _ _ (by simp <;> omega)).trans ((Below.heap_alloc _ _ _ (by simp <;> omega)).trans ((Below.heap_alloc _ _ _ (by simp <;> omega)).trans ((Below.heap_alloc _ _ _ (by simp)).trans (heap_alloc_new w _))))
  have nx : ∀ (u : World) (o : Obj) (k : Nat), u.heap.size = k → (u.alloc o).heap[k]? = some o := fun u o k e => by subst e; exact heap_alloc_new u o
  have r5 : Boxed w1 (w.heap.size + 1) 4 (.bool false) := by
    show w1.heap[_]? = _; rw [HW1.out]
    exact (Below.heap_alloc _ _ _ (by simp <;> omega)).trans ((Below.heap_alloc _ _ _ (by simp <;> omega)).trans ((Below.heap_alloc _ _ _ (by simp <;> omega)).trans (nx _ _ _ (by simp))))
  have r6 : Boxed w1 (w.heap.size + 1 + 1) 40 (.slice none 0 0) := by
    show w1.heap[_]? = _; rw [HW1.out]
    exact (Below.heap_alloc _ _ _ (by simp <;> omega)).trans ((Below.heap_alloc _ _ _ (by simp <;> omega)).trans (nx _ _ _ (by simp)))
  have r7 : Boxed w1 (w.heap.size + 1 + 1 + 1) 40 (.slice spa na ca) := by
    show w1.heap[_]? = _; rw [HW1.out]
    exact (Below.heap_alloc _ _ _ (by simp <;> omega)).trans (nx _ _ _ (by simp))
  have r8 : Boxed w1 (w.heap.size + 1 + 1 + 1 + 1) 40 (.slice spb nb cb) := by
    show w1.heap[_]? = _; rw [HW1.out]
    exact nx _ _ _ (by simp)
  clear nx HW1
  have HSB : Hid (SbIn w1 w.heap.size (w.heap.size + 1 + 1 + 1) (w.heap.size + 1 + 1 + 1 + 1) spa na ca a spb nb cb b) := ⟨r7.cell, r8.cell, HA.out.below hb1 (Nat.le_refl _), HBb.out.below hb1 (Nat.le_refl _)⟩
  have HIN : Hid (FolIn w [] w1) := ⟨rfl, ⟨_, r6, World.ownsRow_nil _ _ _ _, trivial⟩, r4, r5, hb1, by omega, ⟨_, r7⟩, ⟨_, r8⟩⟩
  have HN : Hid ((sbs a b).length ≤ na + nb) := by have := length_sbs a b; have h1 := HA.out.len; have h2 := HBb.out.len; show _ ≤ _; omega
  have hz1a : w.heap.size + 5 ≤ w1.heap.size := by omega
  have hz1b : w1.heap.size ≤ w.heap.size + 5 := by omega
  clear r4 r5 r6 r7 r8 hb1 hz1
  have hI := folIn_own w w1.heap.size (by omega)
  have hIx := folOut_own w w1.heap.size (by omega)
  have HIo := Lib.hid hI
  refine wpIn_rangeFunc_ownH (α := CP) rfl (by decide) (gf := 139) (lb := #[.pointer (some ⟨w.heap.size + 1 + 1 + 1, 0, none⟩), .pointer (some ⟨w.heap.size + 1 + 1 + 1 + 1, 0, none⟩)]) rfl trivial (enters_of Tryd.func139 (by kernel_rfl) rfl)
    (sbs_stops 7 (by decide) w.heap.size (w.heap.size + 1 + 1 + 1) (w.heap.size + 1 + 1 + 1 + 1) spa na ca a spb nb cb b (by omega) (by omega) w1 (by omega) (by omega) (by omega) HSB.out)
    Keep3.trans (keep3_put (by omega) (by omega) (by omega)) (Below.refl _ _) (fun _ => rfl) (FolIn w) (FolOut w) hI hIx HIN.out
    (fun q a' W => PairAt (folFr w spa na ca spb nb cb q) q a' W)
    (fun q a' => pairAt_own (folFr w spa na ca spb nb cb) w1.heap.size q a') ?assign ?body ?done ?stop
  clear hI hIx
  case assign =>
    intro l pre q W K hi hK
    have hbig := hi.big
    have HI1 : Hid ((Tryd.prog.info? 81).map (·.size) = some (cgL q.1.1).toArray.size) := by show _ = _; rw [List.size_toArray]; exact info_c q.2.1
    have HI1s : Hid (65 = (cgL q.1.1).toArray.size) := by show _ = _; rw [List.size_toArray]; exact (cgL_length q.2.1).symm
    have HI2 : Hid ((Tryd.prog.info? 81).map (·.size) = some (cgL q.1.2).toArray.size) := by show _ = _; rw [List.size_toArray]; exact info_c q.2.2
    have HI2s : Hid (65 = (cgL q.1.2).toArray.size) := by show _ = _; rw [List.size_toArray]; exact (cgL_length q.2.2).symm
    have HNX := Lib.hid (heap_alloc_new (W.alloc (.cells (cgL q.1.1).toArray 81)) (.cells Tryd.zeroCells81 81))
    have HFI := Lib.hid hi; have HK := Lib.hid hK
    clear hi hK
    simp only [encP, List.zip_toArray, List.zip_cons_cons, List.zip_nil_right, List.zip_nil_left, List.foldl_toArray, List.foldl_cons, List.foldl_nil, List.setIfInBounds_toArray, List.set_cons_succ, List.set_cons_zero]
    gi_wp2_with (first
      | (refine wpListIn_store_rowS rfl 81 _ _ rfl W.heap.size _ rfl rfl 81 Tryd.zeroCells81 (heap_alloc_new W _) HI1.out ((rfl : (Tryd.zeroCells81).size = 65).trans HI1s.out) (cgA_one _) ?_; rw [setRow_new])
      | (refine wpListIn_store_rowS rfl 81 _ _ rfl (W.heap.size + 1) _ rfl rfl 81 Tryd.zeroCells81 (by simpa using HNX.out) HI2.out ((rfl : (Tryd.zeroCells81).size = 65).trans HI2s.out) (cgA_one _) ?_; rw [setRow_new2]))
    have hbw : Below W.heap.size W ((W.alloc (.cells (cgL q.1.1).toArray 81)).alloc (.cells (cgL q.1.2).toArray 81)) := ((Below.refl _ W).alloc (Nat.le_refl _) _).alloc (by simp) _
    have hT := TwoB.new W (cgL q.1.1).toArray (cgL q.1.2).toArray
    exact HK.out _ _ (((KeepsOthers.alloc W _).trans (KeepsOthers.alloc _ _)).from _) (Keep3.of_below hbw (by omega) (by omega) (by omega)) (HIo.out.alloc _ (HIo.out.alloc _ HFI.out)) ⟨W.heap.size, W.heap.size + 1, hT.x, hT.y, rfl⟩
  case body =>
    rintro l pre q a' W hl ⟨r, hr⟩ hin ⟨bx, by', hx, hy, rfl⟩ hlen
    have hr' : ∃ r, W.heap[l]? = some (.loop r) := ⟨r, hr⟩
    have hbig := hin.big
    have HX := Lib.hid hx; have HY := Lib.hid hy; have HFI := Lib.hid hin
    have hsx : bx < W.heap.size := (Array.getElem?_eq_some_iff.1 hx).1
    have hsy : by' < W.heap.size := (Array.getElem?_eq_some_iff.1 hy).1
    have HDN := Lib.hid (info_d q.2.1.2); have HDO := Lib.hid (info_d q.2.1.1); have HEN := Lib.hid (info_d q.2.2.2); have HEO := Lib.hid (info_d q.2.2.1)
    have hxp := hx.p
    have he := neqD q.1.1.n q.1.2.o q.2.1.2.1 q.2.2.1.1
    have hc4 := hin.res.cell; have hf4 := hin.res.frozen; have hc5 := hin.bool.cell; have hf5 := hin.bool.frozen
    clear hx hy hr
    unfold folFr
    by_cases hok : q.1.1.n = q.1.2.o
    · rw [decide_eq_true hok] at he
      have HOK := Lib.hid hok
      have hzok : OkC (⟨q.1.1.p, q.1.1.o, q.1.2.n⟩ : Cg) := ⟨q.2.1.1, q.2.2.2⟩
      obtain ⟨z, hzz⟩ : ∃ z : Cg, z = ⟨q.1.1.p, q.1.1.o, q.1.2.n⟩ := ⟨_, rfl⟩
      have hzo : z.o = q.1.1.o := by rw [hzz]
      have hzn : z.n = q.1.2.n := by rw [hzz]
      rw [← hzz] at hzok
      have HZZ := Lib.hid hzz; have HZO := Lib.hid hzok
      have hbc : ∀ w', (Instr.build 81 [(0, .string q.1.1.p), (1, .agg (q.1.1.o.map (Value.int .u8)).toArray), (2, .agg (q.1.2.n.map (Value.int .u8)).toArray)].toArray).run Tryd.prog w' = .ok (.agg (cgL z).toArray) w' := by
        intro w'; rw [hzz]; exact buildC _ _ _ q.2.1.1.1 q.2.2.2.1 w'
      have HBC := Lib.hid hbc
      have HI1 : Hid ((Tryd.prog.info? 81).map (·.size) = some (cgL z).toArray.size) := by show _ = _; rw [List.size_toArray]; exact info_c hzok
      have HI1s : Hid (65 = (cgL z).toArray.size) := by show _ = _; rw [List.size_toArray]; exact (cgL_length hzok).symm
      obtain ⟨c, hcc⟩ : ∃ c, decide (z.o = z.n) = c := ⟨_, rfl⟩
      have hid : ∀ w', Calls Tryd.prog 105 #[.agg (cgL z).toArray] w' fun e w'' => e = .returned (.bool c) ∧ Below w'.heap.size w' w'' := fun w' => by rw [← hcc]; exact idle_any z w' hzok
      have HID := Lib.hid hid
      have HOUT : Hid (outs (pre ++ [q]) = if c = true then outs pre else outs pre ++ [z]) := by
        show _ = _
        unfold outs
        rw [List.map_append, List.filterMap_append]
        show _ ++ (List.filterMap outP [q.1]) = _
        have e1 : outP q.1 = if c = true then none else some z := by
          unfold outP
          rw [← hcc, hzz]
          by_cases hh : q.1.1.o = q.1.2.n
          · simp [hh]
          · simp [hh]
        cases c
        · rw [List.filterMap_cons, e1]; simp
        · rw [List.filterMap_cons, e1]; simp
      have HALL : Hid (((pre ++ [q]).map (·.1)).all okP = true) := by show _ = _; rw [List.map_append, List.all_append, hin.ok]; simp [okP, hok]
      clear hok hzz hzo hzn hzok hbc hid hcc hc4 hf4 hc5 hf5 hin
      gi_wp2_with (first
        | (refine wpListIn_load_midS rfl 28 _ rfl bx 33 rfl _ _ (HX.out.n q.2.1) Tryd.underlying28 rfl HDN.out ?_)
        | (refine wpListIn_load_midS rfl 28 _ rfl by' 1 rfl _ _ HY.out.o Tryd.underlying28 rfl HEO.out ?_)
        | (refine wpListIn_load_midS rfl 28 _ rfl bx 1 rfl _ _ HX.out.o Tryd.underlying28 rfl HDO.out ?_)
        | (refine wpListIn_load_midS rfl 28 _ rfl by' 33 rfl _ _ (HY.out.n q.2.2) Tryd.underlying28 rfl HEN.out ?_)
        | (refine wpListIn_build_eqS rfl 81 [(0, .tmp 21), (1, .tmp 23), (2, .tmp 25)] rfl [(0, .string q.1.1.p), (1, .agg (q.1.1.o.map (Value.int .u8)).toArray), (2, .agg (q.1.2.n.map (Value.int .u8)).toArray)] rfl _ (HBC.out _) ?_)
        | (refine wpListIn_store_rowS rfl 81 _ _ rfl W.heap.size _ rfl rfl 81 Tryd.zeroCells81 (heap_alloc_new W _) HI1.out ((rfl : (Tryd.zeroCells81).size = 65).trans HI1s.out) (cgA_one _) ?_; rw [setRow_new]; generalize hw2 : World.alloc W _ = W2; have hz2 : CgB W2 W.heap.size z := (by rw [← hw2]; exact heap_alloc_new _ _); have hb2 : Below W.heap.size W W2 := (by rw [← hw2]; exact (Below.refl _ _).alloc (Nat.le_refl _) _); have hs2 : W2.heap.size = W.heap.size + 1 := (by rw [← hw2]; simp); have hk2 : KeepsOthers W W2 := (by rw [← hw2]; exact KeepsOthers.alloc _ _); have hi2 : FolIn w pre W2 := (by rw [← hw2]; exact HIo.out.alloc _ HFI.out); have HZ2 := Lib.hid hz2; have HB2 := Lib.hid hb2; have HS2 := Lib.hid hs2; have HK2 := Lib.hid hk2; have HI2 := Lib.hid hi2; clear hw2 hz2 hb2 hs2 hk2 hi2)
        | (refine wpListIn_load_rowS rfl 81 _ rfl W.heap.size rfl _ _ _ _ HZ2.out Tryd.underlying81 rfl HI1.out ?_))
      refine ⟨trivial, ?_⟩
      refine (CallsIn.inRound l (callsIn_wide.2 (HID.out _))).mono ?_
      rintro e W3 ⟨rfl, hb3⟩
      have hs3 := hb3.size
      have hs2 := HS2.out
      have hg3 : W2.grownBy W3 none := ⟨hb3.os, hb3.tape, hb3.output, hb3.size, fun k hk _ => hb3.block k hk⟩
      have hk3 : KeepsOthers W W3 := HK2.out.trans ⟨hb3.size, fun k o hk _ => (hb3.block k (Array.getElem?_eq_some_iff.1 hk).1).trans hk⟩
      have hb13 : Below W.heap.size W W3 := HB2.out.trans (hb3.mono (by omega))
      have hi3 : FolIn w pre W3 := HIo.out pre W2 W3 none HI2.out hg3 (fun r e => by cases e)
      have hz3 : CgB W3 W.heap.size z := HZ2.out.below hb3 (by omega)
      have HK3 := Lib.hid hk3; have HB13 := Lib.hid hb13; have HI3 := Lib.hid hi3; have HZ3 := Lib.hid hz3
      have hs3' : W.heap.size < W3.heap.size := by omega
      clear hg3 hk3 hb13 hi3 hz3 hb3 hs2 hs3
      cases c
      · obtain ⟨v, hv, hrow, -⟩ := HI3.out.row
        have HV := Lib.hid hv; have HROW := Lib.hid hrow
        have hc6 := hv.cell
        have hf6 := hv.frozen
        obtain ⟨k, hk⟩ : ∃ k, k = (outs pre).length := ⟨_, rfl⟩
        have hkl : k ≤ 1000000 := by have h1 := outs_length pre; have h2 := HN.out; omega
        have HKK := Lib.hid hk
        have hbase : w.heap.size ≤ W3.heap.size := by omega
        have HOW := Lib.hid (show OwnC W3 w.heap.size v (outs pre) from ⟨hrow, outs_ok pre⟩)
        clear hv hrow hk
        gi_wp2_with (first
          | (refine wpListIn_load_rowS rfl 81 _ rfl W.heap.size rfl _ _ _ _ HZ3.out Tryd.underlying81 rfl HI1.out ?_)
          | (refine wpListIn_slice_eqS rfl 40 1 [(0, .tmp 31)] rfl [(0, .agg (cgL z).toArray)] rfl _ _ (sliceC _ z HZO.out) ?_; have hz4 : CgB (W3.alloc (.cells (cgL z).toArray 81)) W3.heap.size z := (CgB.new W3 z); have ho4 : OwnC (W3.alloc (.cells (cgL z).toArray 81)) w.heap.size v (outs pre) := (HOW.out.below ((Below.refl _ _).alloc (Nat.le_refl _) _)); have HZ4 := Lib.hid hz4; have HO4 := Lib.hid ho4; clear hz4 ho4)
          | (refine wpListIn_append_cgS rfl (.tmp 30) (.tmp 32) rfl w.heap.size v (outs pre) k HKK.out rfl HO4.out W3.heap.size z rfl HZ4.out HZO.out hkl (by simp; omega) ?_; intro sp5 cap5 W5 HO5 HB5 HG5; have happ := HV.out.appended (by decide) HROW.out hbase (by omega : w.heap.size ≤ w.heap.size + 1 + 1) HO5.out.1 HG5.out; have hc7 := happ.1.cell; have hf7 := happ.1.frozen; have HAPP := Lib.hid happ; clear happ))
        have hrw : ∀ j, v.ownBlock = some j → w.heap.size ≤ j ∧ j ≠ w.heap.size + 1 + 1 + 1 ∧ j ≠ w.heap.size + 1 + 1 + 1 + 1 := by
          intro j hj
          obtain ⟨u1, hu1⟩ := HI3.out.ra
          obtain ⟨u2, hu2⟩ := HI3.out.rb
          exact ⟨own_baseS HROW.out j hj, fun e => (hu1.not_row (by decide) HROW.out) (by rw [hj, e]), fun e => (hu2.not_row (by decide) HROW.out) (by rw [hj, e])⟩
        have hk4 := keep3_append HG5.out hrw (.slice (some ⟨sp5, 0, none⟩) (k + 1) cap5) (by omega : w.heap.size ≤ w.heap.size + 1 + 1) (by omega) (by omega) hbase (by omega) (by omega)
        obtain ⟨_, hp2, hp3, hp4, hp5⟩ := HAPP.out
        have hb66 : ∀ (bx : Nat) (t : TypeId) (u : Value), bx ≠ w.heap.size + 1 + 1 → t ≠ 81 → Boxed W3 bx t u → Boxed (W5.setCell ⟨w.heap.size + 1 + 1, 0, none⟩ (.slice (some ⟨sp5, 0, none⟩) (k + 1) cap5)) bx t u := fun bx t u h1 h2 h =>
          ((h.alloc _).kept HG5.out (h.not_row h2 HROW.out)).other h1 _
        refine ⟨(HK3.out.trans hp4).from _, (Keep3.of_below HB13.out (by omega) (by omega) (by omega)).trans hk4, HALL.out, ⟨_, hp2, ?_, trivial⟩, hb66 _ _ _ (by omega) (by decide) HI3.out.res, hb66 _ _ _ (by omega) (by decide) HI3.out.bool, HI3.out.below.trans hp5, Nat.le_trans HI3.out.big hk4.1, HI3.out.ra.elim fun u hu => ⟨u, hb66 _ _ _ (by omega) (by decide) hu⟩, HI3.out.rb.elim fun u hu => ⟨u, hb66 _ _ _ (by omega) (by decide) hu⟩⟩
        rw [HOUT.out]
        have e1 : (if false = true then outs pre else outs pre ++ [z]) = outs pre ++ [z] := rfl
        rw [e1, List.length_append, ← HKK.out]
        have := hp3
        rw [List.length_append, ← HKK.out] at this
        exact this
      · gi_wp2_with fail
        refine ⟨HK3.out.from _, Keep3.of_below HB13.out (by omega) (by omega) (by omega), HALL.out, ?_, HI3.out.res, HI3.out.bool, HI3.out.below, HI3.out.big, HI3.out.ra, HI3.out.rb⟩
        rw [HOUT.out]
        exact HI3.out.row
    · rw [decide_eq_false hok] at he
      have HR : Hid (KeepsFrom w1.heap.size W ((W.setCell ⟨w.heap.size, 0, none⟩ (.slice none 0 0)).setCell ⟨w.heap.size + 1, 0, none⟩ (.bool false)) ∧ FolOut w .ret (pre ++ [q]) ((W.setCell ⟨w.heap.size, 0, none⟩ (.slice none 0 0)).setCell ⟨w.heap.size + 1, 0, none⟩ (.bool false))) :=
        ⟨((KeepsOthers.setCell _ _ _).trans (KeepsOthers.setCell _ _ _)).from _, rfl, by rw [List.map_append, List.all_append]; simp [okP, hok], (hin.res.set _).other (by omega) _, (hin.bool.other (by omega) _).set _, (hin.below.setCell (p := ⟨w.heap.size, 0, none⟩) (Nat.le_refl _) _).setCell (p := ⟨w.heap.size + 1, 0, none⟩) (Nat.le_succ _) _⟩
      clear hok hin
      gi_wp2_with (first
        | (refine wpListIn_load_midS rfl 28 _ rfl bx 33 rfl _ _ (HX.out.n q.2.1) Tryd.underlying28 rfl HDN.out ?_)
        | (refine wpListIn_load_midS rfl 28 _ rfl by' 1 rfl _ _ HY.out.o Tryd.underlying28 rfl HEO.out ?_))
      exact HR.out
  case done =>
    rintro D xs W hD hS hin hK
    have HF : Hid (fol a b = some (outs xs)) := by
      show _ = _
      unfold fol outs
      rw [← hS, hin.ok]; rfl
    obtain ⟨v, hv, hrow, -⟩ := hin.row
    obtain ⟨sp, cap, rfl⟩ := own_shapeS hrow
    have hc6 := hv.cell
    have hc4 := hin.res.cell; have hf4 := hin.res.frozen; have hc5 := hin.bool.cell; have hf5 := hin.bool.frozen
    have hn4 : some w.heap.size ≠ (Value.slice sp (outs xs).length cap).ownBlock := hin.res.not_row (by decide) hrow
    have hn5 : some (w.heap.size + 1) ≠ (Value.slice sp (outs xs).length cap).ownBlock := hin.bool.not_row (by decide) hrow
    have HROW := Lib.hid hrow; have HFI := Lib.hid hin
    have HN4 := Lib.hid hn4; have HN5 := Lib.hid hn5
    have HKs : Hid ((((W.setCell ⟨w.heap.size, 0, none⟩ (.slice sp (outs xs).length cap)).setCell ⟨w.heap.size + 1, 0, none⟩ (.bool true))).heap[D]? = some (.deferred (some []))) :=
      (Below.heap_setCell _ ⟨w.heap.size + 1, 0, none⟩ (.bool true) D (by show D ≠ w.heap.size + 1; omega)).trans ((Below.heap_setCell W ⟨w.heap.size, 0, none⟩ _ D (by show D ≠ w.heap.size; omega)).trans hK)
    clear hin hrow hS hK hn4 hn5
    gi_wp2_with fail
    have hb4 : Boxed ((W.setCell ⟨w.heap.size, 0, none⟩ (.slice sp (outs xs).length cap)).setCell ⟨w.heap.size + 1, 0, none⟩ (.bool true)) w.heap.size 40 (.slice sp (outs xs).length cap) := (HFI.out.res.set _).other (by omega) _
    have hb5 : Boxed ((W.setCell ⟨w.heap.size, 0, none⟩ (.slice sp (outs xs).length cap)).setCell ⟨w.heap.size + 1, 0, none⟩ (.bool true)) (w.heap.size + 1) 4 (.bool true) := (HFI.out.bool.other (by omega) _).set _
    have hro : ((W.setCell ⟨w.heap.size, 0, none⟩ (.slice sp (outs xs).length cap)).setCell ⟨w.heap.size + 1, 0, none⟩ (.bool true)).ownsRow w.heap.size 81 65 (.slice sp (outs xs).length cap) (outs xs).length (rowsC (outs xs)) :=
      (HROW.out.kept (grownBy_setCell' W w.heap.size _) (.inr (Ne.symm HN4.out))).kept (grownBy_setCell' _ (w.heap.size + 1) _) (.inr (Ne.symm HN5.out))
    have hbl : Below w.heap.size w ((W.setCell ⟨w.heap.size, 0, none⟩ (.slice sp (outs xs).length cap)).setCell ⟨w.heap.size + 1, 0, none⟩ (.bool true)) := (HFI.out.below.setCell (p := ⟨w.heap.size, 0, none⟩) (Nat.le_refl _) _).setCell (p := ⟨w.heap.size + 1, 0, none⟩) (Nat.le_succ _) _
    generalize hW5 : World.setCell (World.setCell W _ _) _ _ = W5 at hb4 hb5 hro hbl ⊢
    have hKs : W5.heap[D]? = some (.deferred (some [])) := by rw [← hW5]; exact HKs.out
    clear hW5
    have hq4 : (W5.putObj D (.deferred none)).cell? ⟨w.heap.size, 0, none⟩ = some (.slice sp (outs xs).length cap) := (World.cell?_of_block (a := ⟨w.heap.size, 0, none⟩) (World.putObj_heap_other (by show w.heap.size ≠ D; omega))).trans hb4.cell
    have hq5 : (W5.putObj D (.deferred none)).cell? ⟨w.heap.size + 1, 0, none⟩ = some (.bool true) := (World.cell?_of_block (a := ⟨w.heap.size + 1, 0, none⟩) (World.putObj_heap_other (by show w.heap.size + 1 ≠ D; omega))).trans hb5.cell
    refine ⟨by simp, .inl ⟨_, _, rfl, run_takeDeferred hKs, ?_⟩⟩
    refine ⟨.tuple #[.slice sp (outs xs).length cap, .bool true], ?_, ?_⟩
    · simp [results, Tryd.f62, go_sem, hq4, hq5]
    · rw [HF.out]
      exact ⟨sp, cap, rfl, ⟨ownsRow_putObj hro _ hKs rfl, outs_ok xs⟩, hbl.trans (belowK_b (w := w) (Nat.le_refl _) W5 D _ _ (by omega) hKs rfl rfl)⟩
  case stop =>
    rintro D c pre W hD hSp hout hK
    obtain rfl := hout.c
    have HF : Hid (fol a b = none) := by
      show _ = _
      unfold fol
      rw [if_neg]
      obtain ⟨r, hr⟩ := hSp
      rw [← hr, List.all_append, hout.no]; simp
    have hq4 : (W.putObj D (.deferred none)).cell? ⟨w.heap.size, 0, none⟩ = some (.slice none 0 0) := (World.cell?_of_block (a := ⟨w.heap.size, 0, none⟩) (World.putObj_heap_other (by show w.heap.size ≠ D; omega))).trans hout.res.cell
    have hq5 : (W.putObj D (.deferred none)).cell? ⟨w.heap.size + 1, 0, none⟩ = some (.bool false) := (World.cell?_of_block (a := ⟨w.heap.size + 1, 0, none⟩) (World.putObj_heap_other (by show w.heap.size + 1 ≠ D; omega))).trans hout.bool.cell
    have HBL := Lib.hid hout.below; have HKs := Lib.hid hK; have HQ4 := Lib.hid hq4; have HQ5 := Lib.hid hq5
    clear hout hK hSp hq4 hq5
    gi_wp2_with fail
    refine ⟨by simp, .inl ⟨_, _, rfl, run_takeDeferred HKs.out, ?_⟩⟩
    refine ⟨.tuple #[.slice none 0 0, .bool false], ?_, ?_⟩
    · have hq4 := HQ4.out
      have hq5 := HQ5.out
      simp [results, Tryd.f62, go_sem, hq4, hq5]
    · rw [HF.out]
      exact ⟨rfl, HBL.out.trans (belowK_b (w := w) (Nat.le_refl _) W D _ _ (by omega) HKs.out rfl rfl)⟩
end Go.Proofs.YtkookkhlgllneaaDoor
