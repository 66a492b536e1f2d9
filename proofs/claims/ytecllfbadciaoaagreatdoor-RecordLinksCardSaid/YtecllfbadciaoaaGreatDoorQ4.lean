/-
  Laws inside a fence: a row stored, a row's part loaded, a struct and a slice of one put together, an append of one change (conditions in each theorem); the walk of sideBySide.
-/
import Derived.Test.YtecllfbadciaoaaGreatDoorZip
import Derived.Test.YtecllfbadciaoaaGreatDoorSnF
import Derived.RangeFuncBox
import Derived.Shelf.Abstract
set_option maxRecDepth 100000
set_option maxHeartbeats 8000000
namespace Go.Proofs.YtecllfbadciaoaaGreatDoor
open Go.RowKit
section
variable {F : Fence} {n : Nat} {P : Program} {ops : Array Oper} {rest : List Oper} {o : Oper} {a : Act} {w : World} {Q : Exit → Act → World → Prop}
theorem wpListIn_load_midS (hgd : o.guard = none) (ty : TypeId) (x : Operand) (ho : o.op = .load ty x)
 (b k : Nat) (hx : a.eval x = .pointer (some ⟨b, k, none⟩)) (cs : List Value) (d : TypeDesc) (hc : w.rangeAt b k cs)
 (hu : P.underlying ty = some d) (hd : d.isRow = true) (hi : (P.info? ty).map (·.size) = some cs.length)
 (h : wpListIn F n P ops Q rest (a.put o.dst (.agg cs.toArray)) w) : wpListIn F n P ops Q (o :: rest) a w := by
 refine wpListIn_plain hgd fun K hK => ?_
 unfold Oper.wpIn
 refine ⟨?_, ?_⟩
 ·simp [Oper.about, ho]
 ·rw [Oper.semAt_plain F _ _ (by rw [ho]; intro c hc'; cases hc')]
  unfold execOp
  simp only [ho, hx, Instr.loadAt, Instr.sureAddr, Sem.run_bind, Sem.run_pure, Result.andThen_ok, run_loadVar_mid w b k ty cs d hc hu hd hi]
  exact hK _ _ h
theorem wpListIn_store_rowS (hgd : o.guard = none) (ty : TypeId) (x y : Operand) (ho : o.op = .store ty x y)
 (g : Nat) (cells : Array Value) (hx : a.eval x = .pointer (some ⟨g, 0, none⟩)) (hy : a.eval y = .agg cells)
 (t : TypeId) (old : Array Value) (hg : w.heap[g]? = some (.cells old t (0, 0))) (hi : (P.info? ty).map (·.size) = some cells.size)
 (hold : old.size = cells.size) (h1 : cells.all (·.oneCell') = true)
 (h : wpListIn F n P ops Q rest (a.put o.dst undef) (w.setRow g cells)) : wpListIn F n P ops Q (o :: rest) a w := by
 refine wpListIn_plain hgd fun K hK => ?_
 unfold Oper.wpIn
 refine ⟨?_, ?_⟩
 ·simp [Oper.about, ho]
 ·rw [Oper.semAt_plain F _ _ (by rw [ho]; intro c hc'; cases hc')]
  unfold execOp
  simp only [ho, hx, hy, Instr.storeAt, Instr.sureAddr, Sem.run_bind, Sem.run_pure, Result.andThen_ok, run_storeVar_row w g t ty old cells hg hi hold h1]
  exact hK _ _ h
theorem wpListIn_build_eqS (hgd : o.guard = none) (t : TypeId) (parts : List (Nat × Operand)) (ho : o.op = .build t parts.toArray)
 (vs : List (Nat × Value)) (hv : (parts.map fun (i, x) => (i, a.eval x)) = vs) (v : Value) (hrun : (Instr.build t vs.toArray).run P w = .ok v w) (h : wpListIn F n P ops Q rest (a.put o.dst v) w) : wpListIn F n P ops Q (o :: rest) a w := by
 refine wpListIn_plain hgd fun K hK => ?_
 unfold Oper.wpIn
 refine ⟨?_, ?_⟩
 ·simp [Oper.about, ho]
 ·rw [Oper.semAt_plain F _ _ (by rw [ho]; intro c hc'; cases hc')]
  unfold execOp
  simp only [ho, Sem.run_bind, List.map_toArray, hv, hrun, Result.andThen_ok]
  exact hK _ _ h
theorem wpListIn_slice_eqS (hgd : o.guard = none) (t : TypeId) (k : Nat) (parts : List (Nat × Operand)) (ho : o.op = .buildSlice t k parts.toArray)
 (vs : List (Nat × Value)) (hv : (parts.map fun (i, x) => (i, a.eval x)) = vs) (v : Value) (w' : World) (hrun : (Instr.buildSlice t k vs.toArray).run P w = .ok v w') (h : wpListIn F n P ops Q rest (a.put o.dst v) w') : wpListIn F n P ops Q (o :: rest) a w := by
 refine wpListIn_plain hgd fun K hK => ?_
 unfold Oper.wpIn
 refine ⟨?_, ?_⟩
 ·simp [Oper.about, ho]
 ·rw [Oper.semAt_plain F _ _ (by rw [ho]; intro c hc'; cases hc')]
  unfold execOp
  simp only [ho, Sem.run_bind, List.map_toArray, hv, hrun, Result.andThen_ok]
  exact hK _ _ h
theorem wpListIn_append_cgS (hgd : o.guard = none) (s x : Operand)
 (ho : o.op = .call { callee := .builtin .append, args := #[s, x], argTypes := #[48, 48] }) (base : Nat) (v : Value) (l : List Cg) (k : Nat) (hn : k = l.length) (hs : a.eval s = v) (hown : OwnC w base v l)
 (g : Nat) (y : Cg) (hx : a.eval x = .slice (some ⟨g, 0, none⟩) 1 1) (hy : CgB w g y) (hok : OkC y) (hlen : k ≤ 1000000) (hbase : base ≤ w.heap.size)
 (h : ∀ sp cap w', Hid (OwnC w' base (.slice (some ⟨sp, 0, none⟩) (k + 1) cap) (l ++ [y])) → Hid (Below base w w') → Hid (w.grownBy w' v.ownBlock) → wpListIn F n Tryz.prog ops Q rest (a.put o.dst (.slice (some ⟨sp, 0, none⟩) (k + 1) cap)) w') : wpListIn F n Tryz.prog ops Q (o :: rest) a w := by
 subst hn
 obtain ⟨i0, hi0, hz0, hz1, hz2⟩ := info_parts infoC3
 refine wpListIn_append_own w hgd s x _ ho base _ i0 _ 65 80 Tryz.underlying48 hi0 hz0 hz1 hz2 rfl (by decide) v l.length _ hs hown.1 ⟨g, 0, none⟩ 1 1 (cgL y) hx (by rw [cgL_length hok]) ?_ (cgL_one y) (by unfold maxLen; omega) (by omega) hbase ?_
 ·intro j u hj
  rw [Addr.add_mid]
  exact hy.all j u hj
 ·intro v' w' h1 h2 _
  obtain ⟨sp, cap, rfl⟩ := ownsRow_succ h1
  refine h sp cap w' ⟨by rw [rowsC_snoc, List.length_append]; exact h1, fun z hz => ?_⟩ ((Below.refl base w).grown h2 hbase (own_baseS hown.1)) h2
  rcases List.mem_append.1 hz with hz | hz
  ·exact hown.2 z hz
  ·rw [List.mem_singleton.1 hz]; exact hok
end
theorem sideBySide_any (spa : Option Addr) (na ca : Nat) (spb : Option Addr) (nb cb : Nat) (w : World) :
 Calls Tryz.prog 88 #[.slice spa na ca, .slice spb nb cb] w fun e w' => e = .returned (.func (.func 117) #[] #[.pointer (some ⟨w.heap.size, 0, none⟩), .pointer (some ⟨w.heap.size + 1, 0, none⟩)]) ∧
  w' = (w.alloc (.cells #[.slice spa na ca] 48)).alloc (.cells #[.slice spb nb cb] 48) := by
 go_enter Tryz.func88, Tryz.ntmps88
 go_wp2
 go_ret
 exact ⟨rfl, rfl⟩
theorem sbs_stops (n : Nat) (hn : 1 ≤ n) (B ba bb : Nat) (spa : Option Addr) (na ca : Nat) (a : List Cg) (spb : Option Addr) (nb cb : Nat) (b : List Cg) (hna : na ≤ 1000000) (hnb : nb ≤ 1000000) (w : World)
 (hB : B ≤ w.heap.size) (hba : ba < w.heap.size) (hbb : bb < w.heap.size) (hc : SbIn w B ba bb spa na ca a spb nb cb b) :
 SeqStopsK Fence.wide n Tryz.prog 117 #[.pointer (some ⟨ba, 0, none⟩), .pointer (some ⟨bb, 0, none⟩)] encP (Keep3 B ba bb) (fun xs => xs.map (·.1) = sbs a b) (fun pre => pre.map (·.1) <+: sbs a b) (sbs a b).length w := by
 intro l J Jx W hW hJ hJx hY h0
 have hz := hW.size
 exact sbs_in n l B ba bb spa na ca a spb nb cb b hn hna hnb J Jx W (by omega) (by omega) (by omega)
  (fun pre X Y hj hb => hJ pre X Y none hj ⟨hb.os, hb.tape, hb.output, hb.size, fun k hk _ => hb.block k hk⟩ (fun r e => by cases e)) hY (hc.keep (Keep3.of_below hW hB hba hbb)) h0
end Go.Proofs.YtecllfbadciaoaaGreatDoor
namespace Go.Proofs.YtecllfbadciaoaaGreatDoor
open Go.RowKit Go.Shelf
attribute [local go_sem] Oper.semAt_some
def outs (pre : List CP) : List Cg := (pre.map (·.1)).filterMap outP
theorem outs_ok (pre : List CP) : ∀ x ∈ outs pre, OkC x := by
 intro x hx
 obtain ⟨q, hq, e⟩ := List.mem_filterMap.1 hx
 obtain ⟨c, _, rfl⟩ := List.mem_map.1 hq
 unfold outP at e
 split at e
 ·cases e
 ·injection e with e; subst e; exact ⟨c.2.1.1, c.2.2.2⟩
theorem outs_length (pre : List CP) : (outs pre).length ≤ pre.length := by
 unfold outs; exact Nat.le_trans (List.length_filterMap_le _ _) (by simp)
theorem length_sbs : ∀ (a b : List Cg), (sbs a b).length ≤ a.length + b.length
 | [], b => by rw [sbs_nil]; simp
 | x :: a, [] => by rw [sbs_nil_right]; simp
 | x :: a, y :: b => by
   by_cases h1 : pls x.p y.p = true
   ·rw [sbs_lt h1]; have := length_sbs a (y :: b); simp at this ⊢; omega
   ·have h1 : pls x.p y.p = false := by simpa using h1
    by_cases h2 : pls y.p x.p = true
    ·rw [sbs_gt h1 h2]; have := length_sbs (x :: a) b; simp at this ⊢; omega
    ·have h2 : pls y.p x.p = false := by simpa using h2
     rw [sbs_eq h1 h2]; have := length_sbs a b; simp at this ⊢; omega
termination_by a b => a.length + b.length
def FolRes (w : World) (r : Option (List Cg)) (e : Ending) (w' : World) : Prop := match r with
 | none => e = .returned (.tuple #[.slice none 0 0, .bool false]) ∧ Below w.heap.size w w'
 | some l => ∃ sp cap, e = .returned (.tuple #[.slice sp l.length cap, .bool true]) ∧ OwnC w' w.heap.size (.slice sp l.length cap) l ∧ Below w.heap.size w w'
structure FolIn (w : World) (pre : List CP) (W : World) : Prop where
 ok : (pre.map (·.1)).all okP = true
 row : ∃ v, Boxed W (w.heap.size + 1 + 1) 48 v ∧ W.ownsRow w.heap.size 86 65 v (outs pre).length (rowsC (outs pre)) ∧ True
 res : Boxed W w.heap.size 48 (.slice none 0 0)
 bool : Boxed W (w.heap.size + 1) 4 (.bool false)
 below : Below w.heap.size w W
 big : w.heap.size + 5 ≤ W.heap.size
 ra : ∃ u, Boxed W (w.heap.size + 1 + 1 + 1) 48 u
 rb : ∃ u, Boxed W (w.heap.size + 1 + 1 + 1 + 1) 48 u
structure FolOut (w : World) (c : Code) (pre : List CP) (W : World) : Prop where
 c : c = .ret
 no : (pre.map (·.1)).all okP = false
 res : Boxed W w.heap.size 48 (.slice none 0 0)
 bool : Boxed W (w.heap.size + 1) 4 (.bool false)
 below : Below w.heap.size w W
theorem folIn_own (w : World) (B : Nat) (hB : w.heap.size ≤ B) : OwnFrom B (FolIn w) := fun pre X Y row h hg hrow =>
 ⟨h.ok, (Own.from (holdsRow_own w.heap.size (w.heap.size + 1 + 1) 48 86 65 (fun pre : List CP => (outs pre).length) (fun pre => rowsC (outs pre)) (fun _ _ => True)) B) pre X Y row h.row hg hrow,
  (Own.from (boxed_own w.heap.size 48 (fun _ : List CP => .slice none 0 0)) B) pre X Y row h.res hg hrow, (Own.from (boxed_own (w.heap.size + 1) 4 (fun _ : List CP => .bool false)) B) pre X Y row h.bool hg hrow,
  ownFrom_below (Nat.le_refl _) hB pre X Y row h.below hg hrow, Nat.le_trans h.big hg.size,
  h.ra.elim fun u hu => ⟨u, (Own.from (boxed_own (w.heap.size + 1 + 1 + 1) 48 (fun _ : List CP => u)) B) pre X Y row hu hg hrow⟩,
  h.rb.elim fun u hu => ⟨u, (Own.from (boxed_own (w.heap.size + 1 + 1 + 1 + 1) 48 (fun _ : List CP => u)) B) pre X Y row hu hg hrow⟩⟩
theorem folOut_own (w : World) (B : Nat) (hB : w.heap.size ≤ B) (c : Code) : OwnFrom B (FolOut w c) := fun pre X Y row h hg hrow =>
 ⟨h.c, h.no, (Own.from (boxed_own w.heap.size 48 (fun _ : List CP => .slice none 0 0)) B) pre X Y row h.res hg hrow, (Own.from (boxed_own (w.heap.size + 1) 4 (fun _ : List CP => .bool false)) B) pre X Y row h.bool hg hrow,
  ownFrom_below (Nat.le_refl _) hB pre X Y row h.below hg hrow⟩
def PairAt (f : Nat → Nat → Array Value) (q : CP) (a' : Act) (W : World) : Prop := ∃ bx by', CgB W bx q.1.1 ∧ CgB W by' q.1.2 ∧ a' = { tmps := f bx by', defers := [] }
def folFr (w : World) (spa : Option Addr) (na ca : Nat) (spb : Option Addr) (nb cb : Nat) (q : CP) (bx by' : Nat) : Array Value := #[.slice spa na ca, .slice spb nb cb, undef, undef, .pointer (some ⟨w.heap.size, 0, none⟩), .pointer (some ⟨w.heap.size + 1, 0, none⟩), .pointer (some ⟨w.heap.size + 1 + 1, 0, none⟩), .pointer (some ⟨bx, 0, none⟩), .pointer (some ⟨by', 0, none⟩), undef, .slice spa na ca, .slice spb nb cb, .func (.func 117) #[] #[.pointer (some ⟨w.heap.size + 1 + 1 + 1, 0, none⟩), .pointer (some ⟨w.heap.size + 1 + 1 + 1 + 1, 0, none⟩)], .agg (cgL q.1.1).toArray, .agg (cgL q.1.2).toArray, undef, undef, undef, undef, undef, undef, undef, undef, undef, undef, undef, undef, undef, undef, undef, undef, undef, undef, undef, undef]
theorem pairAt_own (f : CP → Nat → Nat → Array Value) (B : Nat) (q : CP) (a' : Act) : OwnFrom B (fun (_ : Unit) W => PairAt (f q) q a' W) := by
 rintro s X Y row ⟨bx, by', hx, hy, e⟩ hg hrow
 have keep : ∀ k x, CgB X k x → CgB Y k x := fun k x h => (hg.block k (Array.getElem?_eq_some_iff.1 h).1 (fun e => by
  obtain ⟨_, o, ho, hc⟩ := hrow k e.symm
  rw [show X.heap[k]? = _ from h] at ho; cases ho; cases hc)).trans h
 exact ⟨bx, by', keep _ _ hx, keep _ _ hy, e⟩
theorem keep3_append {B ba bb b6 : Nat} {X Y : World} {row : Option Nat} {tmp : Obj} (hg : (X.alloc tmp).grownBy Y row) (hrow : ∀ k, row = some k → B ≤ k ∧ k ≠ ba ∧ k ≠ bb) (v : Value) (h1 : B ≤ b6) (h2 : b6 ≠ ba) (h3 : b6 ≠ bb) (h4 : B ≤ X.heap.size) (h5 : ba < X.heap.size) (h6 : bb < X.heap.size) :
 Keep3 B ba bb X (Y.setCell ⟨b6, 0, none⟩ v) := by
 have hs := hg.size
 rw [World.size_alloc] at hs
 have go : ∀ k, k < X.heap.size → k ≠ b6 → some k ≠ row → (Y.setCell ⟨b6, 0, none⟩ v).heap[k]? = X.heap[k]? := fun k hk hk6 hkr =>
  (Below.heap_setCell Y ⟨b6, 0, none⟩ v k hk6).trans ((hg.block k (by rw [World.size_alloc]; omega) hkr).trans (Below.heap_alloc X tmp k hk))
 refine ⟨by show _ ≤ (Y.heap.modify _ _).size; rw [Array.size_modify]; omega, fun k hk => go k (by omega) (by omega) (fun e => by have := (hrow k e.symm).1; omega), go ba h5 (Ne.symm h2) (fun e => (hrow ba e.symm).2.1 rfl), go bb h6 (Ne.symm h3) (fun e => (hrow bb e.symm).2.2 rfl)⟩
theorem setRow_new2 (w : World) (o : Obj) (old cells : Array Value) (t : TypeId) : ((w.alloc o).alloc (.cells old t)).setRow (w.heap.size + 1) cells = (w.alloc o).alloc (.cells cells t) := by
 have := setRow_new (w.alloc o) old cells t
 rwa [World.size_alloc] at this
theorem keep3_put {B ba bb : Nat} {w : World} (hB : B ≤ w.heap.size) (hba : ba < w.heap.size) (hbb : bb < w.heap.size) (W : World) (l : Nat) (o o' : Obj) (hl : w.heap.size ≤ l) (_ : W.heap[l]? = some o) (_ : o.isCells = false) (_ : o.isWalk = false) : Keep3 B ba bb W (W.putObj l o') :=
 ⟨by simp, fun k hk => World.putObj_heap_other (by omega), World.putObj_heap_other (by omega), World.putObj_heap_other (by omega)⟩
theorem follow_any (spa : Option Addr) (na ca : Nat) (a : List Cg) (spb : Option Addr) (nb cb : Nat) (b : List Cg) (w : World) (hna : na ≤ 400000) (hnb : nb ≤ 400000) (ha : CgsIn w w.heap.size spa na ca a) (hb : CgsIn w w.heap.size spb nb cb b) :
 Calls Tryz.prog 47 #[.slice spa na ca, .slice spb nb cb] w (FolRes w (fol a b)) := by
 have HA := zh ha; have HBb := zh hb
 clear ha hb
 refine (callsIn_wide (n := 8)).1 ?_
 refine callsIn_of_wp_marks Tryz.func47 rfl trivial ?_ rfl
 simp only [Tryz.ntmps47, List.size_toArray, List.length_cons, List.length_nil, Nat.reduceAdd, Nat.reduceSub, Array.replicate_succ, Array.replicate_zero, List.push_toArray, List.append_toArray, List.nil_append, List.cons_append]
 gi_wp2_with fail
 refine ⟨trivial, ?_⟩
 refine (callsIn_wide.2 (sideBySide_any spa na ca spb nb cb _)).mono ?_
 rintro e w1 ⟨rfl, hw1⟩
 have HW1 := zh hw1; clear hw1
 gi_wp2_with fail
 have hb1 : Below w.heap.size w w1 := by rw [HW1.out]; exact (((((Below.refl _ w).alloc (Nat.le_refl _) _).alloc (by simp) _).alloc (by simp <;> omega) _).alloc (by simp <;> omega) _).alloc (by simp <;> omega) _
 have hz1 : w1.heap.size = w.heap.size + 5 := by rw [HW1.out]; simp
 have r4 : Boxed w1 w.heap.size 48 (.slice none 0 0) := by
  show w1.heap[_]? = _; rw [HW1.out]
  exact (Below.heap_alloc _ _ _ (by simp <;> omega)).trans ((Below.heap_alloc _ _ _ (by simp <;> omega)).trans ((Below.heap_alloc _ _ _ (by simp <;> omega)).trans ((Below.heap_alloc _ _ _ (by simp)).trans (heap_alloc_new w _))))
 have nx : ∀ (u : World) (o : Obj) (k : Nat), u.heap.size = k → (u.alloc o).heap[k]? = some o := fun u o k e => by subst e; exact heap_alloc_new u o
 have r5 : Boxed w1 (w.heap.size + 1) 4 (.bool false) := by
  show w1.heap[_]? = _; rw [HW1.out]
  exact (Below.heap_alloc _ _ _ (by simp <;> omega)).trans ((Below.heap_alloc _ _ _ (by simp <;> omega)).trans ((Below.heap_alloc _ _ _ (by simp <;> omega)).trans (nx _ _ _ (by simp))))
 have r6 : Boxed w1 (w.heap.size + 1 + 1) 48 (.slice none 0 0) := by
  show w1.heap[_]? = _; rw [HW1.out]
  exact (Below.heap_alloc _ _ _ (by simp <;> omega)).trans ((Below.heap_alloc _ _ _ (by simp <;> omega)).trans (nx _ _ _ (by simp)))
 have r7 : Boxed w1 (w.heap.size + 1 + 1 + 1) 48 (.slice spa na ca) := by
  show w1.heap[_]? = _; rw [HW1.out]
  exact (Below.heap_alloc _ _ _ (by simp <;> omega)).trans (nx _ _ _ (by simp))
 have r8 : Boxed w1 (w.heap.size + 1 + 1 + 1 + 1) 48 (.slice spb nb cb) := by
  show w1.heap[_]? = _; rw [HW1.out]
  exact nx _ _ _ (by simp)
 clear nx HW1
 have HSB : Hid (SbIn w1 w.heap.size (w.heap.size + 1 + 1 + 1) (w.heap.size + 1 + 1 + 1 + 1) spa na ca a spb nb cb b) := ⟨r7.cell, r8.cell, HA.out.below hb1 (Nat.le_refl _), HBb.out.below hb1 (Nat.le_refl _)⟩
 have HIN : Hid (FolIn w [] w1) := ⟨rfl, ⟨_, r6, World.ownsRow_nil _ _ _ _, trivial⟩, r4, r5, hb1, by omega, ⟨_, r7⟩, ⟨_, r8⟩⟩
 have HN : Hid ((sbs a b).length ≤ na + nb) := by have := length_sbs a b; have h1 := HA.out.len; have h2 := HBb.out.len; show _ ≤ _; omega
 have hz1a : w.heap.size + 5 ≤ w1.heap.size := by omega
 have hz1b : w1.heap.size ≤ w.heap.size + 5 := by omega
 clear r4 r5 r6 r7 r8 hb1 hz1
 have hI := folIn_own w w1.heap.size (by omega)
 have hIx := folOut_own w w1.heap.size (by omega)
 have HIo := zh hI
 refine wpIn_rangeFunc_ownH (α := CP) rfl (by decide) (gf := 117) (lb := #[.pointer (some ⟨w.heap.size + 1 + 1 + 1, 0, none⟩), .pointer (some ⟨w.heap.size + 1 + 1 + 1 + 1, 0, none⟩)]) rfl trivial (enters_of Tryz.func117 (by kernel_rfl) rfl)
  (sbs_stops 7 (by decide) w.heap.size (w.heap.size + 1 + 1 + 1) (w.heap.size + 1 + 1 + 1 + 1) spa na ca a spb nb cb b (by omega) (by omega) w1 (by omega) (by omega) (by omega) HSB.out)
  Keep3.trans (keep3_put (by omega) (by omega) (by omega)) (Below.refl _ _) (fun _ => rfl) (FolIn w) (FolOut w) hI hIx HIN.out
  (fun q a' W => PairAt (folFr w spa na ca spb nb cb q) q a' W)
  (fun q a' => pairAt_own (folFr w spa na ca spb nb cb) w1.heap.size q a') ?assign ?body ?done ?stop
 clear hI hIx
 case assign =>
  intro l pre q W K hi hK
  have hbig := hi.big
  have HI1 : Hid ((Tryz.prog.info? 86).map (·.size) = some (cgL q.1.1).toArray.size) := by show _ = _; rw [List.size_toArray]; exact info_c q.2.1
  have HI1s : Hid (65 = (cgL q.1.1).toArray.size) := by show _ = _; rw [List.size_toArray]; exact (cgL_length q.2.1).symm
  have HI2 : Hid ((Tryz.prog.info? 86).map (·.size) = some (cgL q.1.2).toArray.size) := by show _ = _; rw [List.size_toArray]; exact info_c q.2.2
  have HI2s : Hid (65 = (cgL q.1.2).toArray.size) := by show _ = _; rw [List.size_toArray]; exact (cgL_length q.2.2).symm
  have HNX := zh (heap_alloc_new (W.alloc (.cells (cgL q.1.1).toArray 86)) (.cells Tryz.zeroCells86 86))
  have HFI := zh hi; have HK := zh hK
  clear hi hK
  simp only [encP, List.zip_toArray, List.zip_cons_cons, List.zip_nil_right, List.zip_nil_left, List.foldl_toArray, List.foldl_cons, List.foldl_nil, List.setIfInBounds_toArray, List.set_cons_succ, List.set_cons_zero]
  gi_wp2_with (first
   | (refine wpListIn_store_rowS rfl 86 _ _ rfl W.heap.size _ rfl rfl 86 Tryz.zeroCells86 (heap_alloc_new W _) HI1.out ((rfl : (Tryz.zeroCells86).size = 65).trans HI1s.out) (cgA_one _) ?_; rw [setRow_new])
   | (refine wpListIn_store_rowS rfl 86 _ _ rfl (W.heap.size + 1) _ rfl rfl 86 Tryz.zeroCells86 (by simpa using HNX.out) HI2.out ((rfl : (Tryz.zeroCells86).size = 65).trans HI2s.out) (cgA_one _) ?_; rw [setRow_new2]))
  have hbw : Below W.heap.size W ((W.alloc (.cells (cgL q.1.1).toArray 86)).alloc (.cells (cgL q.1.2).toArray 86)) := ((Below.refl _ W).alloc (Nat.le_refl _) _).alloc (by simp) _
  have hT := TwoB.new W (cgL q.1.1).toArray (cgL q.1.2).toArray
  exact HK.out _ _ (((KeepsOthers.alloc W _).trans (KeepsOthers.alloc _ _)).from _) (Keep3.of_below hbw (by omega) (by omega) (by omega)) (HIo.out.alloc _ (HIo.out.alloc _ HFI.out)) ⟨W.heap.size, W.heap.size + 1, hT.x, hT.y, rfl⟩
 case body =>
  rintro l pre q a' W hl ⟨r, hr⟩ hin ⟨bx, by', hx, hy, rfl⟩ hlen
  have hr' : ∃ r, W.heap[l]? = some (.loop r) := ⟨r, hr⟩
  have hbig := hin.big
  have HX := zh hx; have HY := zh hy; have HFI := zh hin
  have hsx : bx < W.heap.size := (Array.getElem?_eq_some_iff.1 hx).1
  have hsy : by' < W.heap.size := (Array.getElem?_eq_some_iff.1 hy).1
  have HDN := zh (info_d q.2.1.2); have HDO := zh (info_d q.2.1.1); have HEN := zh (info_d q.2.2.2); have HEO := zh (info_d q.2.2.1)
  have hxp := hx.p
  have he := neqD q.1.1.n q.1.2.o q.2.1.2.1 q.2.2.1.1
  have hc4 := hin.res.cell; have hf4 := hin.res.frozen; have hc5 := hin.bool.cell; have hf5 := hin.bool.frozen
  clear hx hy hr
  unfold folFr
  by_cases hok : q.1.1.n = q.1.2.o
  ·rw [decide_eq_true hok] at he
   have HOK := zh hok
   have hzok : OkC (⟨q.1.1.p, q.1.1.o, q.1.2.n⟩ : Cg) := ⟨q.2.1.1, q.2.2.2⟩
   obtain ⟨z, hzz⟩ : ∃ z : Cg, z = ⟨q.1.1.p, q.1.1.o, q.1.2.n⟩ := ⟨_, rfl⟩
   have hzo : z.o = q.1.1.o := by rw [hzz]
   have hzn : z.n = q.1.2.n := by rw [hzz]
   rw [← hzz] at hzok
   have HZZ := zh hzz; have HZO := zh hzok
   have hbc : ∀ w', (Instr.build 86 [(0, .string q.1.1.p), (1, .agg (q.1.1.o.map (Value.int .u8)).toArray), (2, .agg (q.1.2.n.map (Value.int .u8)).toArray)].toArray).run Tryz.prog w' = .ok (.agg (cgL z).toArray) w' := by
    intro w'; rw [hzz]; exact buildC _ _ _ q.2.1.1.1 q.2.2.2.1 w'
   have HBC := zh hbc
   have HI1 : Hid ((Tryz.prog.info? 86).map (·.size) = some (cgL z).toArray.size) := by show _ = _; rw [List.size_toArray]; exact info_c hzok
   have HI1s : Hid (65 = (cgL z).toArray.size) := by show _ = _; rw [List.size_toArray]; exact (cgL_length hzok).symm
   obtain ⟨c, hcc⟩ : ∃ c, decide (z.o = z.n) = c := ⟨_, rfl⟩
   have hid : ∀ w', Calls Tryz.prog 89 #[.agg (cgL z).toArray] w' fun e w'' => e = .returned (.bool c) ∧ Below w'.heap.size w' w'' := fun w' => by rw [← hcc]; exact idle_any z w' hzok
   have HID := zh hid
   have HOUT : Hid (outs (pre ++ [q]) = if c = true then outs pre else outs pre ++ [z]) := by
    show _ = _
    unfold outs
    rw [List.map_append, List.filterMap_append]
    show _ ++ (List.filterMap outP [q.1]) = _
    have e1 : outP q.1 = if c = true then none else some z := by
     unfold outP
     rw [← hcc, hzz]
     by_cases hh : q.1.1.o = q.1.2.n
     ·simp [hh]
     ·simp [hh]
    cases c
    ·rw [List.filterMap_cons, e1]; simp
    ·rw [List.filterMap_cons, e1]; simp
   have HALL : Hid (((pre ++ [q]).map (·.1)).all okP = true) := by show _ = _; rw [List.map_append, List.all_append, hin.ok]; simp [okP, hok]
   clear hok hzz hzo hzn hzok hbc hid hcc hc4 hf4 hc5 hf5 hin
   gi_wp2_with (first
    | (refine wpListIn_load_midS rfl 80 _ rfl bx 33 rfl _ _ (HX.out.n q.2.1) Tryz.underlying80 rfl HDN.out ?_)
    | (refine wpListIn_load_midS rfl 80 _ rfl by' 1 rfl _ _ HY.out.o Tryz.underlying80 rfl HEO.out ?_)
    | (refine wpListIn_load_midS rfl 80 _ rfl bx 1 rfl _ _ HX.out.o Tryz.underlying80 rfl HDO.out ?_)
    | (refine wpListIn_load_midS rfl 80 _ rfl by' 33 rfl _ _ (HY.out.n q.2.2) Tryz.underlying80 rfl HEN.out ?_)
    | (refine wpListIn_build_eqS rfl 86 [(0, .tmp 21), (1, .tmp 23), (2, .tmp 25)] rfl [(0, .string q.1.1.p), (1, .agg (q.1.1.o.map (Value.int .u8)).toArray), (2, .agg (q.1.2.n.map (Value.int .u8)).toArray)] rfl _ (HBC.out _) ?_)
    | (refine wpListIn_store_rowS rfl 86 _ _ rfl W.heap.size _ rfl rfl 86 Tryz.zeroCells86 (heap_alloc_new W _) HI1.out ((rfl : (Tryz.zeroCells86).size = 65).trans HI1s.out) (cgA_one _) ?_; rw [setRow_new]; generalize hw2 : World.alloc W _ = W2; have hz2 : CgB W2 W.heap.size z := (by rw [← hw2]; exact heap_alloc_new _ _); have hb2 : Below W.heap.size W W2 := (by rw [← hw2]; exact (Below.refl _ _).alloc (Nat.le_refl _) _); have hs2 : W2.heap.size = W.heap.size + 1 := (by rw [← hw2]; simp); have hk2 : KeepsOthers W W2 := (by rw [← hw2]; exact KeepsOthers.alloc _ _); have hi2 : FolIn w pre W2 := (by rw [← hw2]; exact HIo.out.alloc _ HFI.out); have HZ2 := zh hz2; have HB2 := zh hb2; have HS2 := zh hs2; have HK2 := zh hk2; have HI2 := zh hi2; clear hw2 hz2 hb2 hs2 hk2 hi2)
    | (refine wpListIn_load_rowS rfl 86 _ rfl W.heap.size rfl _ _ _ _ HZ2.out Tryz.underlying86 rfl HI1.out ?_))
   refine ⟨trivial, ?_⟩
   refine (CallsIn.inRound l (callsIn_wide.2 (HID.out _))).mono ?_
   rintro e W3 ⟨rfl, hb3⟩
   have hs3 := hb3.size
   have hs2 := HS2.out
   have hg3 : W2.grownBy W3 none := ⟨hb3.os, hb3.tape, hb3.output, hb3.size, fun k hk _ => hb3.block k hk⟩
   have hk3 : KeepsOthers W W3 := HK2.out.trans ⟨hb3.size, fun k o hk _ => (hb3.block k (Array.getElem?_eq_some_iff.1 hk).1).trans hk⟩
   have hb13 : Below W.heap.size W W3 := HB2.out.trans (hb3.mono (by omega))
   have hi3 : FolIn w pre W3 := HIo.out pre W2 W3 none HI2.out hg3 (fun r e => by cases e)
   have hz3 : CgB W3 W.heap.size z := HZ2.out.below hb3 (by omega)
   have HK3 := zh hk3; have HB13 := zh hb13; have HI3 := zh hi3; have HZ3 := zh hz3
   have hs3' : W.heap.size < W3.heap.size := by omega
   clear hg3 hk3 hb13 hi3 hz3 hb3 hs2 hs3
   cases c
   ·obtain ⟨v, hv, hrow, -⟩ := HI3.out.row
    have HV := zh hv; have HROW := zh hrow
    have hc6 := hv.cell
    have hf6 := hv.frozen
    obtain ⟨k, hk⟩ : ∃ k, k = (outs pre).length := ⟨_, rfl⟩
    have hkl : k ≤ 1000000 := by have h1 := outs_length pre; have h2 := HN.out; omega
    have HKK := zh hk
    have hbase : w.heap.size ≤ W3.heap.size := by omega
    have HOW := zh (show OwnC W3 w.heap.size v (outs pre) from ⟨hrow, outs_ok pre⟩)
    clear hv hrow hk
    gi_wp2_with (first
     | (refine wpListIn_load_rowS rfl 86 _ rfl W.heap.size rfl _ _ _ _ HZ3.out Tryz.underlying86 rfl HI1.out ?_)
     | (refine wpListIn_slice_eqS rfl 48 1 [(0, .tmp 31)] rfl [(0, .agg (cgL z).toArray)] rfl _ _ (sliceC _ z HZO.out) ?_; have hz4 : CgB (W3.alloc (.cells (cgL z).toArray 86)) W3.heap.size z := (CgB.new W3 z); have ho4 : OwnC (W3.alloc (.cells (cgL z).toArray 86)) w.heap.size v (outs pre) := (HOW.out.below ((Below.refl _ _).alloc (Nat.le_refl _) _)); have HZ4 := zh hz4; have HO4 := zh ho4; clear hz4 ho4)
     | (refine wpListIn_append_cgS rfl (.tmp 30) (.tmp 32) rfl w.heap.size v (outs pre) k HKK.out rfl HO4.out W3.heap.size z rfl HZ4.out HZO.out hkl (by simp; omega) ?_; intro sp5 cap5 W5 HO5 HB5 HG5; have happ := HV.out.appended (by decide) HROW.out hbase (by omega : w.heap.size ≤ w.heap.size + 1 + 1) HO5.out.1 HG5.out; have hc7 := happ.1.cell; have hf7 := happ.1.frozen; have HAPP := zh happ; clear happ))
    have hrw : ∀ j, v.ownBlock = some j → w.heap.size ≤ j ∧ j ≠ w.heap.size + 1 + 1 + 1 ∧ j ≠ w.heap.size + 1 + 1 + 1 + 1 := by
     intro j hj
     obtain ⟨u1, hu1⟩ := HI3.out.ra
     obtain ⟨u2, hu2⟩ := HI3.out.rb
     exact ⟨own_baseS HROW.out j hj, fun e => (hu1.not_row (by decide) HROW.out) (by rw [hj, e]), fun e => (hu2.not_row (by decide) HROW.out) (by rw [hj, e])⟩
    have hk4 := keep3_append HG5.out hrw (.slice (some ⟨sp5, 0, none⟩) (k + 1) cap5) (by omega : w.heap.size ≤ w.heap.size + 1 + 1) (by omega) (by omega) hbase (by omega) (by omega)
    obtain ⟨_, hp2, hp3, hp4, hp5⟩ := HAPP.out
    have hb66 : ∀ (bx : Nat) (t : TypeId) (u : Value), bx ≠ w.heap.size + 1 + 1 → t ≠ 86 → Boxed W3 bx t u → Boxed (W5.setCell ⟨w.heap.size + 1 + 1, 0, none⟩ (.slice (some ⟨sp5, 0, none⟩) (k + 1) cap5)) bx t u := fun bx t u h1 h2 h =>
     ((h.alloc _).kept HG5.out (h.not_row h2 HROW.out)).other h1 _
    refine ⟨(HK3.out.trans hp4).from _, (Keep3.of_below HB13.out (by omega) (by omega) (by omega)).trans hk4, HALL.out, ⟨_, hp2, ?_, trivial⟩, hb66 _ _ _ (by omega) (by decide) HI3.out.res, hb66 _ _ _ (by omega) (by decide) HI3.out.bool, HI3.out.below.trans hp5, Nat.le_trans HI3.out.big hk4.1, HI3.out.ra.elim fun u hu => ⟨u, hb66 _ _ _ (by omega) (by decide) hu⟩, HI3.out.rb.elim fun u hu => ⟨u, hb66 _ _ _ (by omega) (by decide) hu⟩⟩
    rw [HOUT.out]
    have e1 : (if false = true then outs pre else outs pre ++ [z]) = outs pre ++ [z] := rfl
    rw [e1, List.length_append, ← HKK.out]
    have := hp3
    rw [List.length_append, ← HKK.out] at this
    exact this
   ·gi_wp2_with fail
    refine ⟨HK3.out.from _, Keep3.of_below HB13.out (by omega) (by omega) (by omega), HALL.out, ?_, HI3.out.res, HI3.out.bool, HI3.out.below, HI3.out.big, HI3.out.ra, HI3.out.rb⟩
    rw [HOUT.out]
    exact HI3.out.row
  ·rw [decide_eq_false hok] at he
   have HR : Hid (KeepsFrom w1.heap.size W ((W.setCell ⟨w.heap.size, 0, none⟩ (.slice none 0 0)).setCell ⟨w.heap.size + 1, 0, none⟩ (.bool false)) ∧ FolOut w .ret (pre ++ [q]) ((W.setCell ⟨w.heap.size, 0, none⟩ (.slice none 0 0)).setCell ⟨w.heap.size + 1, 0, none⟩ (.bool false))) :=
    ⟨((KeepsOthers.setCell _ _ _).trans (KeepsOthers.setCell _ _ _)).from _, rfl, by rw [List.map_append, List.all_append]; simp [okP, hok], (hin.res.set _).other (by omega) _, (hin.bool.other (by omega) _).set _, (hin.below.setCell (p := ⟨w.heap.size, 0, none⟩) (Nat.le_refl _) _).setCell (p := ⟨w.heap.size + 1, 0, none⟩) (Nat.le_succ _) _⟩
   clear hok hin
   gi_wp2_with (first
    | (refine wpListIn_load_midS rfl 80 _ rfl bx 33 rfl _ _ (HX.out.n q.2.1) Tryz.underlying80 rfl HDN.out ?_)
    | (refine wpListIn_load_midS rfl 80 _ rfl by' 1 rfl _ _ HY.out.o Tryz.underlying80 rfl HEO.out ?_))
   exact HR.out
 case done =>
  rintro D xs W hD hS hin hK
  have HF : Hid (fol a b = some (outs xs)) := by
   show _ = _
   unfold fol outs
   rw [← hS, hin.ok]; rfl
  obtain ⟨v, hv, hrow, -⟩ := hin.row
  obtain ⟨sp, cap, rfl⟩ := own_shapeS hrow
  have hc6 := hv.cell
  have hc4 := hin.res.cell; have hf4 := hin.res.frozen; have hc5 := hin.bool.cell; have hf5 := hin.bool.frozen
  have hn4 : some w.heap.size ≠ (Value.slice sp (outs xs).length cap).ownBlock := hin.res.not_row (by decide) hrow
  have hn5 : some (w.heap.size + 1) ≠ (Value.slice sp (outs xs).length cap).ownBlock := hin.bool.not_row (by decide) hrow
  have HROW := zh hrow; have HFI := zh hin
  have HN4 := zh hn4; have HN5 := zh hn5
  have HKs : Hid ((((W.setCell ⟨w.heap.size, 0, none⟩ (.slice sp (outs xs).length cap)).setCell ⟨w.heap.size + 1, 0, none⟩ (.bool true))).heap[D]? = some (.deferred (some []))) :=
   (Below.heap_setCell _ ⟨w.heap.size + 1, 0, none⟩ (.bool true) D (by show D ≠ w.heap.size + 1; omega)).trans ((Below.heap_setCell W ⟨w.heap.size, 0, none⟩ _ D (by show D ≠ w.heap.size; omega)).trans hK)
  clear hin hrow hS hK hn4 hn5
  gi_wp2_with fail
  have hb4 : Boxed ((W.setCell ⟨w.heap.size, 0, none⟩ (.slice sp (outs xs).length cap)).setCell ⟨w.heap.size + 1, 0, none⟩ (.bool true)) w.heap.size 48 (.slice sp (outs xs).length cap) := (HFI.out.res.set _).other (by omega) _
  have hb5 : Boxed ((W.setCell ⟨w.heap.size, 0, none⟩ (.slice sp (outs xs).length cap)).setCell ⟨w.heap.size + 1, 0, none⟩ (.bool true)) (w.heap.size + 1) 4 (.bool true) := (HFI.out.bool.other (by omega) _).set _
  have hro : ((W.setCell ⟨w.heap.size, 0, none⟩ (.slice sp (outs xs).length cap)).setCell ⟨w.heap.size + 1, 0, none⟩ (.bool true)).ownsRow w.heap.size 86 65 (.slice sp (outs xs).length cap) (outs xs).length (rowsC (outs xs)) :=
   (HROW.out.kept (grownBy_setCell' W w.heap.size _) (.inr (Ne.symm HN4.out))).kept (grownBy_setCell' _ (w.heap.size + 1) _) (.inr (Ne.symm HN5.out))
  have hbl : Below w.heap.size w ((W.setCell ⟨w.heap.size, 0, none⟩ (.slice sp (outs xs).length cap)).setCell ⟨w.heap.size + 1, 0, none⟩ (.bool true)) := (HFI.out.below.setCell (p := ⟨w.heap.size, 0, none⟩) (Nat.le_refl _) _).setCell (p := ⟨w.heap.size + 1, 0, none⟩) (Nat.le_succ _) _
  generalize hW5 : World.setCell (World.setCell W _ _) _ _ = W5 at hb4 hb5 hro hbl ⊢
  have hKs : W5.heap[D]? = some (.deferred (some [])) := by rw [← hW5]; exact HKs.out
  clear hW5
  have hq4 : (W5.putObj D (.deferred none)).cell? ⟨w.heap.size, 0, none⟩ = some (.slice sp (outs xs).length cap) := (World.cell?_of_block (a := ⟨w.heap.size, 0, none⟩) (World.putObj_heap_other (by show w.heap.size ≠ D; omega))).trans hb4.cell
  have hq5 : (W5.putObj D (.deferred none)).cell? ⟨w.heap.size + 1, 0, none⟩ = some (.bool true) := (World.cell?_of_block (a := ⟨w.heap.size + 1, 0, none⟩) (World.putObj_heap_other (by show w.heap.size + 1 ≠ D; omega))).trans hb5.cell
  refine ⟨by simp, .inl ⟨_, _, rfl, run_takeDeferred hKs, ?_⟩⟩
  refine ⟨.tuple #[.slice sp (outs xs).length cap, .bool true], ?_, ?_⟩
  ·simp [results, Tryz.f47, go_sem, hq4, hq5]
  ·rw [HF.out]
   exact ⟨sp, cap, rfl, ⟨ownsRow_putObj hro _ hKs rfl, outs_ok xs⟩, hbl.trans (belowK_b (w := w) (Nat.le_refl _) W5 D _ _ (by omega) hKs rfl rfl)⟩
 case stop =>
  rintro D c pre W hD hSp hout hK
  obtain rfl := hout.c
  have HF : Hid (fol a b = none) := by
   show _ = _
   unfold fol
   rw [if_neg]
   obtain ⟨r, hr⟩ := hSp
   rw [← hr, List.all_append, hout.no]; simp
  have hq4 : (W.putObj D (.deferred none)).cell? ⟨w.heap.size, 0, none⟩ = some (.slice none 0 0) := (World.cell?_of_block (a := ⟨w.heap.size, 0, none⟩) (World.putObj_heap_other (by show w.heap.size ≠ D; omega))).trans hout.res.cell
  have hq5 : (W.putObj D (.deferred none)).cell? ⟨w.heap.size + 1, 0, none⟩ = some (.bool false) := (World.cell?_of_block (a := ⟨w.heap.size + 1, 0, none⟩) (World.putObj_heap_other (by show w.heap.size + 1 ≠ D; omega))).trans hout.bool.cell
  have HBL := zh hout.below; have HKs := zh hK; have HQ4 := zh hq4; have HQ5 := zh hq5
  clear hout hK hSp hq4 hq5
  gi_wp2_with fail
  refine ⟨by simp, .inl ⟨_, _, rfl, run_takeDeferred HKs.out, ?_⟩⟩
  refine ⟨.tuple #[.slice none 0 0, .bool false], ?_, ?_⟩
  ·have hq4 := HQ4.out
   have hq5 := HQ5.out
   simp [results, Tryz.f47, go_sem, hq4, hq5]
  ·rw [HF.out]
   exact ⟨rfl, HBL.out.trans (belowK_b (w := w) (Nat.le_refl _) W D _ _ (by omega) HKs.out rfl rfl)⟩
end Go.Proofs.YtecllfbadciaoaaGreatDoor
namespace Go.Proofs.YtecllfbadciaoaaGreatDoor
open Go.RowKit
def ResC (w : World) (r : Except Int (List Cg)) (e : Ending) (w' : World) : Prop := match r with
 | .error k => e = .returned (.tuple #[.slice none 0 0, .int .i64 k]) ∧ Below w.heap.size w w'
 | .ok l => ∃ sp cap, e = .returned (.tuple #[.slice sp l.length cap, .int .i64 0]) ∧ OwnC w' w.heap.size (.slice sp l.length cap) l ∧ Below w.heap.size w w'
def ResE (w : World) (r : Except Int (List En)) (e : Ending) (w' : World) : Prop := match r with
 | .error k => e = .returned (.tuple #[.slice none 0 0, .int .i64 k]) ∧ Below w.heap.size w w'
 | .ok l => ∃ sp cap, e = .returned (.tuple #[.slice sp l.length cap, .int .i64 0]) ∧ OwnE w' w.heap.size (.slice sp l.length cap) l ∧ Below w.heap.size w w'
def finA : Option (List Cg) → Except Int (List En)
 | none => .error 9
 | some m => if m.any needB then .error 9 else if 64 < m.length then .error 3 else .ok (m.map toE)
theorem finA_some (m : List Cg) : finA (some m) = if m.any needB then .error 9 else if 64 < m.length then .error 3 else .ok (m.map toE) := rfl
def sDiff (a b : List En) : Except Int (List Cg) := if vldE a && vldE b then .ok (cdif a b) else .error 1
def sApply (s : List En) (l : List Cg) : Except Int (List En) := if vldE s && vldC l then finA (fol (cre s) l) else .error 1
theorem resC_error {w w' : World} {r : Except Int (List Cg)} {k : Int} {e : Ending} (h : r = .error k) (he : e = .returned (.tuple #[.slice none 0 0, .int .i64 k])) (hb : Below w.heap.size w w') : ResC w r e w' := by subst h; exact ⟨he, hb⟩
theorem resC_ok {w w' : World} {r : Except Int (List Cg)} {l : List Cg} {e : Ending} {sp : Option Addr} {n cap : Nat} (h : r = .ok l) (hn : n = l.length) (he : e = .returned (.tuple #[.slice sp n cap, .int .i64 0])) (ho : OwnC w' w.heap.size (.slice sp n cap) l) (hb : Below w.heap.size w w') : ResC w r e w' := by subst h; subst hn; exact ⟨sp, cap, he, ho, hb⟩
theorem resE_error {w w' : World} {r : Except Int (List En)} {k : Int} {e : Ending} (h : r = .error k) (he : e = .returned (.tuple #[.slice none 0 0, .int .i64 k])) (hb : Below w.heap.size w w') : ResE w r e w' := by subst h; exact ⟨he, hb⟩
theorem resE_ok {w w' : World} {r : Except Int (List En)} {l : List En} {e : Ending} {sp : Option Addr} {n cap : Nat} (h : r = .ok l) (hn : n = l.length) (he : e = .returned (.tuple #[.slice sp n cap, .int .i64 0])) (ho : OwnE w' w.heap.size (.slice sp n cap) l) (hb : Below w.heap.size w w') : ResE w r e w' := by subst h; subst hn; exact ⟨sp, cap, he, ho, hb⟩
theorem OwnC.base {w : World} {b b' : Nat} {v : Value} {l : List Cg} (h : OwnC w b v l) (hb : b' ≤ b) : OwnC w b' v l := by
 refine ⟨?_, h.2⟩
 obtain ⟨hl, h1 | ⟨g, cap, cur, e, hbg, rest⟩⟩ := h.1
 ·exact ⟨hl, .inl h1⟩
 ·exact ⟨hl, .inr ⟨g, cap, cur, e, Nat.le_trans hb hbg, rest⟩⟩
theorem OwnE.base {w : World} {b b' : Nat} {v : Value} {l : List En} (h : OwnE w b v l) (hb : b' ≤ b) : OwnE w b' v l := by
 refine ⟨?_, h.2⟩
 obtain ⟨hl, h1 | ⟨g, cap, cur, e, hbg, rest⟩⟩ := h.1
 ·exact ⟨hl, .inl h1⟩
 ·exact ⟨hl, .inr ⟨g, cap, cur, e, Nat.le_trans hb hbg, rest⟩⟩
theorem CgsIn.up {w w' : World} {B : Nat} {sp : Option Addr} {n cap : Nat} {l : List Cg} (h : CgsIn w B sp n cap l) (hb : Below B w w') (hs : B ≤ w.heap.size) : CgsIn w' w'.heap.size sp n cap l :=
 (h.below hb (Nat.le_refl _)).below (Below.refl w'.heap.size w') (Nat.le_trans hs hb.size)
theorem EnsIn.up {w w' : World} {B : Nat} {sp : Option Addr} {n cap : Nat} {l : List En} (h : EnsIn w B sp n cap l) (hb : Below B w w') (hs : B ≤ w.heap.size) : EnsIn w' w'.heap.size sp n cap l :=
 (h.below hb (Nat.le_refl _)).below (Below.refl w'.heap.size w') (Nat.le_trans hs hb.size)
theorem Diff_any (spa : Option Addr) (na ca : Nat) (a : List En) (spb : Option Addr) (nb cb : Nat) (b : List En) (w : World) (ha : EnsIn w w.heap.size spa na ca a) (hb : EnsIn w w.heap.size spb nb cb b) (hna : na ≤ 100000) (hnb : nb ≤ 100000) :
 Calls Tryz.prog 43 #[.slice spa na ca, .slice spb nb cb] w (ResC w (sDiff a b)) := by
 have HA := zh ha; have HBb := zh hb; clear ha hb
 obtain ⟨c1, hc1⟩ : ∃ c, vldE a = c := ⟨_, rfl⟩
 obtain ⟨c2, hc2⟩ : ∃ c, vldE b = c := ⟨_, rfl⟩
 have hv1 := fun w' (h : EnsIn w' w'.heap.size spa na ca a) => Valid_any spa na ca a w' h (by omega)
 have hv2 := fun w' (h : EnsIn w' w'.heap.size spb nb cb b) => Valid_any spb nb cb b w' h (by omega)
 rw [hc1] at hv1; rw [hc2] at hv2
 have HV1 := zh hv1; have HV2 := zh hv2; have HC1 := zh hc1; have HC2 := zh hc2
 clear hv1 hv2 hc1 hc2
 cases c1
 ·go_enter Tryz.func43, Tryz.ntmps43
  go_wp2_with fail
  refine (HV1.out _ HA.out).mono ?_
  rintro e w1 ⟨rfl, hb1⟩
  have HB1 := zh hb1; clear hb1
  go_wp2_with fail
  go_ret2
  exact resC_error (by unfold sDiff; rw [HC1.out]; rfl) rfl HB1.out
 cases c2
 ·go_enter Tryz.func43, Tryz.ntmps43
  go_wp2_with fail
  refine (HV1.out _ HA.out).mono ?_
  rintro e w1 ⟨rfl, hb1⟩
  have HB1 := zh hb1; clear hb1
  go_wp2_with fail
  refine (HV2.out _ (HBb.out.up HB1.out (Nat.le_refl _))).mono ?_
  rintro e w2 ⟨rfl, hb2⟩
  have HB2 := zh (HB1.out.trans (hb2.mono HB1.out.size)); clear hb2
  go_wp2_with fail
  go_ret2
  exact resC_error (by unfold sDiff; rw [HC1.out, HC2.out]; rfl) rfl HB2.out
 have HSA : Hid (Srt En.p a) := by have h := HC1.out; unfold vldE at h; simp at h; exact (ascB_iff a).1 h.2
 have HSB : Hid (Srt En.p b) := by have h := HC2.out; unfold vldE at h; simp at h; exact (ascB_iff b).1 h.2
 have hlen1 : (inv (cre a)).length = na := by rw [← HA.out.len]; simp [inv, cre]
 have hlen2 : (cre b).length = nb := by rw [← HBb.out.len]; simp [cre]
 have HL1 := zh hlen1; have HL2 := zh hlen2; clear hlen1 hlen2
 have HLC : Hid ((cre a).length = na) := by show _ = _; rw [← HA.out.len]; simp [cre]
 have HR := zh (dif_fol a b HSA.out HSB.out)
 go_enter Tryz.func43, Tryz.ntmps43
 go_wp2_with fail
 refine (HV1.out _ HA.out).mono ?_
 rintro e w1 ⟨rfl, hb1⟩
 have HB1 := zh hb1; clear hb1
 go_wp2_with fail
 refine (HV2.out _ (HBb.out.up HB1.out (Nat.le_refl _))).mono ?_
 rintro e w2 ⟨rfl, hb2⟩
 have HB2 := zh (HB1.out.trans (hb2.mono HB1.out.size)); clear hb2
 go_wp2_with fail
 refine (creations_any spa na ca a _ (HA.out.up HB2.out (Nat.le_refl _)) (by omega)).mono ?_
 rintro e w3 ⟨sp3, cap3, rfl, ho3, hb3⟩
 have HO3 := zh ho3
 have HB3 := zh (HB2.out.trans (hb3.mono HB2.out.size)); clear hb3 ho3
 go_wp2_with fail
 refine (inverse_any sp3 na cap3 (cre a) _ (HO3.out.cgs HLC.out) (by omega)).mono ?_
 rintro e w4 ⟨sp4, cap4, rfl, ho4, hb4⟩
 have HO4 := zh ho4
 have HB4 := zh (HB3.out.trans (hb4.mono HB3.out.size)); clear hb4 ho4
 go_wp2_with fail
 refine (creations_any spb nb cb b _ (HBb.out.up HB4.out (Nat.le_refl _)) (by omega)).mono ?_
 rintro e w5 ⟨sp5, cap5, rfl, ho5, hb5⟩
 have HO5 := zh ho5
 have HO4' := zh (HO4.out.below hb5)
 have HB5 := zh (HB4.out.trans (hb5.mono HB4.out.size)); clear hb5 ho5
 go_wp2_with fail
 have hfol := follow_any sp4 na cap4 (inv (cre a)) sp5 nb cap5 (cre b) w5 (by omega) (by omega) (HO4'.out.cgs HL1.out) (HO5.out.cgs HL2.out)
 rw [HR.out] at hfol
 have HFO := zh hfol; clear hfol
 refine HFO.out.mono ?_
 rintro e w6 ⟨sp6, cap6, rfl, ho6, hb6⟩
 have HO6 := zh (ho6.base HB5.out.size)
 have HB6 := zh (HB5.out.trans (hb6.mono HB5.out.size)); clear hb6 ho6
 go_wp2_with fail
 go_ret2
 exact resC_ok (l := cdif a b) (by unfold sDiff; rw [HC1.out, HC2.out]; rfl) rfl rfl HO6.out HB6.out
def mapE (l : List Cg) : List En := l.map toE
theorem Apply_any (spa : Option Addr) (na ca : Nat) (s : List En) (spb : Option Addr) (nb cb : Nat) (b : List Cg) (w : World) (ha : EnsIn w w.heap.size spa na ca s) (hb : CgsIn w w.heap.size spb nb cb b) (hna : na ≤ 100000) (hnb : nb ≤ 100000) :
 Calls Tryz.prog 20 #[.slice spa na ca, .slice spb nb cb] w (ResE w (sApply s b)) := by
 have HA := zh ha; have HBb := zh hb; clear ha hb
 obtain ⟨c1, hc1⟩ : ∃ c, vldE s = c := ⟨_, rfl⟩
 obtain ⟨c2, hc2⟩ : ∃ c, vldC b = c := ⟨_, rfl⟩
 have hv1 := fun w' (h : EnsIn w' w'.heap.size spa na ca s) => Valid_any spa na ca s w' h (by omega)
 have hv2 := fun w' (h : CgsIn w' w'.heap.size spb nb cb b) => validChanges_any spb nb cb b w' h (by omega)
 rw [hc1] at hv1; rw [hc2] at hv2
 have HV1 := zh hv1; have HV2 := zh hv2; have HC1 := zh hc1; have HC2 := zh hc2
 clear hv1 hv2 hc1 hc2
 cases c1
 ·go_enter Tryz.func20, Tryz.ntmps20
  go_wp2_with fail
  refine (HV1.out _ HA.out).mono ?_
  rintro e w1 ⟨rfl, hb1⟩
  have HB1 := zh hb1; clear hb1
  go_wp2_with fail
  go_ret2
  exact resE_error (by unfold sApply; rw [HC1.out]; rfl) rfl HB1.out
 cases c2
 ·go_enter Tryz.func20, Tryz.ntmps20
  go_wp2_with fail
  refine (HV1.out _ HA.out).mono ?_
  rintro e w1 ⟨rfl, hb1⟩
  have HB1 := zh hb1; clear hb1
  go_wp2_with fail
  refine (HV2.out _ (HBb.out.up HB1.out (Nat.le_refl _))).mono ?_
  rintro e w2 ⟨rfl, hb2⟩
  have HB2 := zh (HB1.out.trans (hb2.mono HB1.out.size)); clear hb2
  go_wp2_with fail
  go_ret2
  exact resE_error (by unfold sApply; rw [HC1.out, HC2.out]; rfl) rfl HB2.out
 have hlen1 : (cre s).length = na := by rw [← HA.out.len]; simp [cre]
 have HL1 := zh hlen1; clear hlen1
 obtain ⟨r, hr⟩ : ∃ r, fol (cre s) b = r := ⟨_, rfl⟩
 have hf := fun sp' cap' w' (h1 : CgsIn w' w'.heap.size sp' na cap' (cre s)) (h2 : CgsIn w' w'.heap.size spb nb cb b) => follow_any sp' na cap' (cre s) spb nb cb b w' (by omega) (by omega) h1 h2
 rw [hr] at hf
 have HLN : Hid (∀ l, r = some l → l.length ≤ na + nb) := by
  intro l hl
  rw [hl] at hr
  unfold fol at hr
  split at hr
  ·injection hr with hr
   rw [← hr]
   exact Nat.le_trans (List.length_filterMap_le _ _) (by have := length_sbs (cre s) b; have h1 := HL1.out; have h2 := HBb.out.len; omega)
  ·cases hr
 have HF := zh hf; have HR := zh hr; clear hf hr
 have HS : Hid (sApply s b = finA r) := by show _ = _; unfold sApply; rw [HC1.out, HC2.out, HR.out]; rfl
 go_enter Tryz.func20, Tryz.ntmps20
 go_wp2_with fail
 refine (HV1.out _ HA.out).mono ?_
 rintro e w1 ⟨rfl, hb1⟩
 have HB1 := zh hb1; clear hb1
 go_wp2_with fail
 refine (HV2.out _ (HBb.out.up HB1.out (Nat.le_refl _))).mono ?_
 rintro e w2 ⟨rfl, hb2⟩
 have HB2 := zh (HB1.out.trans (hb2.mono HB1.out.size)); clear hb2
 go_wp2_with fail
 refine (creations_any spa na ca s _ (HA.out.up HB2.out (Nat.le_refl _)) (by omega)).mono ?_
 rintro e w3 ⟨sp3, cap3, rfl, ho3, hb3⟩
 have HO3 := zh ho3
 have HB3 := zh (HB2.out.trans (hb3.mono HB2.out.size)); clear hb3 ho3
 go_wp2_with fail
 refine (HF.out sp3 cap3 w3 (HO3.out.cgs HL1.out) (HBb.out.up HB3.out (Nat.le_refl _))).mono ?_
 rintro e w4 hres
 cases r with
 | none =>
   obtain ⟨rfl, hb4⟩ := hres
   have HB4 := zh (HB3.out.trans (hb4.mono HB3.out.size)); clear hb4
   go_wp2_with fail
   go_ret2
   exact resE_error HS.out rfl HB4.out
 | some m =>
   obtain ⟨sp4, cap4, rfl, ho4, hb4⟩ := hres
   obtain ⟨N, hN⟩ : ∃ N, m.length = N := ⟨_, rfl⟩
   have hNb : N ≤ 200000 := by have := HLN.out m rfl; omega
   rw [hN] at ho4 ⊢
   have HLm := zh hN; clear hN
   have HO4 := zh ho4
   have HB4 := zh (HB3.out.trans (hb4.mono HB3.out.size)); clear hb4 ho4
   obtain ⟨c3, hc3⟩ : ∃ c, m.any needB = c := ⟨_, rfl⟩
   have hcn := containsN_any sp4 N cap4 m w4 (HO4.out.cgs HLm.out) (by omega)
   rw [hc3] at hcn
   have HCN := zh hcn; have HC3 := zh hc3; clear hcn hc3
   cases c3 with
   | true =>
     have HS2 : Hid (sApply s b = .error 9) := by show _ = _; rw [HS.out, finA_some, HC3.out]; rfl
     go_wp2_with fail
     refine HCN.out.mono ?_
     rintro e w5 ⟨rfl, hb5⟩
     have HB5 := zh (HB4.out.trans (hb5.mono HB4.out.size)); clear hb5
     go_wp2_with fail
     go_ret2
     exact resE_error HS2.out rfl HB5.out
   | false =>
   by_cases h64 : 64 < N
   ·have hd : decide ((N : Int) > 64) = true := by simp; omega
    have HS2 : Hid (sApply s b = .error 3) := by show _ = _; rw [HS.out, finA_some, HC3.out, if_neg (by simp), HLm.out]; exact if_pos h64
    clear h64
    go_wp2_with fail
    refine HCN.out.mono ?_
    rintro e w5 ⟨rfl, hb5⟩
    have HB5 := zh (HB4.out.trans (hb5.mono HB4.out.size)); clear hb5
    go_wp2_with fail
    go_ret2
    exact resE_error HS2.out rfl HB5.out
   have hd : decide ((N : Int) > 64) = false := by simp; omega
   have HS2 : Hid (sApply s b = .ok (mapE m)) := by show _ = _; rw [HS.out, finA_some, HC3.out, if_neg (by simp), HLm.out]; exact if_neg h64
   clear h64
   go_wp2_with fail
   refine HCN.out.mono ?_
   rintro e w5 ⟨rfl, hb5⟩
   have HM := zh ((HO4.out.below hb5).cgs HLm.out)
   have HB5 := zh (HB4.out.trans (hb5.mono HB4.out.size)); clear hb5
   clear HF HR HO3 HO4 HCN HV1 HV2 HLN
   obtain ⟨i0, hi0, hz0, hz1, hz2⟩ := info_parts infoE3
   have hws := HB5.out.size
   go_wp2_with (refine wpList_make_own w5 rfl _ _ 29 rfl w5.heap.size 82 i0 _ 33 Tryz.underlying29 hi0 hz0 hz1 .i64 .i64 (N : Int) N rfl rfl rfl (by rw [hz2]; omega) (by unfold maxLen; omega) (Nat.le_refl _) ?_; intro w6 hown6 hg6)
   have HB1' := zh ((Below.refl w5.heap.size w5).grown hg6 (Nat.le_refl _) (fun k e => by cases e))
   have HO1 := zh hown6
   clear hg6 hown6 hi0 hz0 hz1 hz2
   go_loopw [8, 40] (fun v i wr => ∃ (k : Nat) (sp' : Option Addr) (cap' : Nat), k ≤ N ∧ i = .int .i64 k ∧ v = .slice sp' k cap' ∧ Hid (OwnE wr w5.heap.size (.slice sp' k cap') (mapE (m.take k))) ∧ Hid (Below w5.heap.size w5 wr)) (fun _ i _ => N - (intOf i).toNat)
   case atStart => exact ⟨0, _, _, Nat.zero_le _, rfl, rfl, ⟨HO1.out, by simp [mapE, toE]⟩, HB1'.out⟩
   case round =>
    clear HO1 HB1'
    obtain ⟨k, sp', cap', hk, rfl, rfl, hown, hbe⟩ := hrel
    have hbs := hbe.out.size
    by_cases hlt : k < N
    ·have hd : decide ((k : Int) < (N : Int)) = true := by simp; omega
     obtain ⟨b, off, rfl, hbB, hcap, hr⟩ := HM.out.cells (by omega)
     have hkl : k < m.length := by rw [HM.out.len]; exact hlt
     obtain ⟨x, hx⟩ : ∃ x, m[k]? = some x := ⟨m[k], List.getElem?_eq_getElem hkl⟩
     have hok := HM.out.ok x (List.mem_of_getElem? hx)
     have HR := zh (range_belowS (hr k x hx) hbe.out hbB)
     have HI := zh (info_c hok); have HOK := zh hok
     have HS : Hid (65 = (cgL x).toArray.size) := by show _ = _; rw [List.size_toArray, cgL_length hok]
     have HT : Hid (mapE (m.take (k + 1)) = mapE (m.take k) ++ [⟨x.p, x.n⟩]) := by show _ = _; rw [List.take_add_one, hx]; simp [mapE, toE]
     have HKL : Hid (k = (mapE (m.take k)).length) := by show _ = _; simp [mapE, toE]; omega
     have p1 : (0 : Int) ≤ (k : Int) := by omega
     have p2 : (k : Int) < (N : Int) := by omega
     clear hr hx hkl hok
     go_wp2_with (first
      | (refine wpList_load_mid rfl 86 _ rfl b (off + k * 65) rfl _ _ HR.out Tryz.underlying86 rfl HI.out ?_)
      | (refine wpList_store_row rfl 86 _ _ rfl wr.heap.size _ rfl rfl 86 _ (heap_alloc_new wr _) (by simpa using HI.out) (by simpa using HS.out) (Array.all_eq_true_iff_forall_mem.2 (by simpa using cgL_one x)) ?_; rw [setRow_new]; generalize hw2 : World.alloc wr _ = w2; have he2 : CgB w2 wr.heap.size x := (by rw [← hw2]; exact heap_alloc_new _ _); have hb2 : Below wr.heap.size wr w2 := (by rw [← hw2]; exact (Below.refl _ _).alloc (Nat.le_refl _) _); have hz2 : wr.heap.size < w2.heap.size := (by rw [← hw2]; simp); have hp2 := he2.p; have HE2 := zh he2; have HW2 := zh hb2; have HO2 := zh (hown.out.below hb2); clear hw2 he2 hb2)
      | (refine wpList_load_mid rfl 80 _ rfl wr.heap.size 33 rfl _ _ (HE2.out.n HOK.out) Tryz.underlying80 rfl (info_d HOK.out.2) ?_)
      | (refine wpList_build_eq rfl 82 [(0, .tmp 46), (1, .tmp 48)] rfl [(0, .string x.p), (1, .agg (x.n.map (Value.int .u8)).toArray)] rfl _ (buildE x.p x.n HOK.out.2.1 _) ?_)
      | (refine wpList_slice_eq rfl 29 1 [(0, .tmp 49)] rfl [(0, .agg (enL ⟨x.p, x.n⟩).toArray)] rfl _ _ (sliceE _ ⟨x.p, x.n⟩ HOK.out.2) ?_; generalize hw3 : World.alloc w2 _ = w3; have he3 : EnB w3 w2.heap.size ⟨x.p, x.n⟩ := (by rw [← hw3]; exact heap_alloc_new _ _); have hb3 : Below w2.heap.size w2 w3 := (by rw [← hw3]; exact (Below.refl _ _).alloc (Nat.le_refl _) _); have hz3 : w2.heap.size < w3.heap.size := (by rw [← hw3]; simp); have HE3 := zh he3; have HW3 := zh (HW2.out.trans (hb3.mono (by omega))); have HO3 := zh (HO2.out.below hb3); clear hw3 he3 hb3)
      | (at_builtin; refine wpList_append_en rfl (.tmp 44) (.tmp 50) rfl w5.heap.size _ _ k HKL.out rfl HO3.out w2.heap.size ⟨x.p, x.n⟩ rfl HE3.out HOK.out.2 (by omega) (by omega) ?_; intro sp4 cap4 w4 HO4 HB4 HG4))
     have HB5 := zh ((hbe.out.trans (HW3.out.mono hbs)).trans HB4.out)
     go_roundw
     case rel => exact ⟨k + 1, sp4, cap4, hlt, by go_num, rfl, by show OwnE _ _ _ _; rw [HT.out]; exact HO4.out, HB5.out⟩
     case measure => simp [intOf]; omega
    ·obtain rfl : k = N := by omega
     have hd : decide ((k : Int) < (k : Int)) = false := by simp
     have HT : Hid (mapE (m.take k) = mapE m) := by show _ = _; rw [List.take_of_length_le (by rw [HM.out.len]; exact Nat.le_refl _)]
     go_wp2_with fail
     go_ret2
     exact resE_ok HS2.out (by rw [← HLm.out]; simp [mapE, toE]) rfl ((show OwnE _ _ _ (mapE m) by rw [← HT.out]; exact hown.out).base hws) (HB5.out.trans (hbe.out.mono hws))
end Go.Proofs.YtecllfbadciaoaaGreatDoor
