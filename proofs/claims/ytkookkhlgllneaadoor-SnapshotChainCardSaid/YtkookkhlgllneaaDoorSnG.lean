/-
  Laws inside a fence: a row stored, a row's part loaded, a struct and a slice of one put together, an append of one change (conditions in each theorem); the walk of sideBySide.
-/
import Derived.Test.YtkookkhlgllneaaDoorSnF
import Derived.RangeFuncBox
namespace Go.Proofs.YtkookkhlgllneaaDoor
open Go.RowKit

section
variable {F : Fence} {n : Nat} {P : Program} {ops : Array Oper} {rest : List Oper} {o : Oper} {a : Act} {w : World} {Q : Exit → Act → World → Prop}
theorem wpListIn_load_midS (hgd : o.guard = none) (ty : TypeId) (x : Operand) (ho : o.op = .load ty x)
    (b k : Nat) (hx : a.eval x = .pointer (some ⟨b, k, none⟩)) (cs : List Value) (d : TypeDesc) (hc : w.rangeAt b k cs)
    (hu : P.underlying ty = some d) (hd : d.isRow = true) (hi : (P.info? ty).map (·.size) = some cs.length)
    (h : wpListIn F n P ops Q rest (a.put o.dst (.agg cs.toArray)) w) : wpListIn F n P ops Q (o :: rest) a w := by
  refine wpListIn_plain hgd fun K hK => ?_
  unfold Oper.wpIn
  refine ⟨?_, ?_⟩
  · simp [Oper.about, ho]
  · rw [Oper.semAt_plain F _ _ (by rw [ho]; intro c hc'; cases hc')]
    unfold execOp
    simp only [ho, hx, Instr.loadAt, Instr.sureAddr, Sem.run_bind, Sem.run_pure, Result.andThen_ok, run_loadVar_mid w b k ty cs d hc hu hd hi]
    exact hK _ _ h
theorem wpListIn_store_rowS (hgd : o.guard = none) (ty : TypeId) (x y : Operand) (ho : o.op = .store ty x y)
    (g : Nat) (cells : Array Value) (hx : a.eval x = .pointer (some ⟨g, 0, none⟩)) (hy : a.eval y = .agg cells)
    (t : TypeId) (old : Array Value) (hg : w.heap[g]? = some (.cells old t (0, 0))) (hi : (P.info? ty).map (·.size) = some cells.size)
    (hold : old.size = cells.size) (h1 : cells.all (·.oneCell') = true)
    (h : wpListIn F n P ops Q rest (a.put o.dst undef) (w.setRow g cells)) : wpListIn F n P ops Q (o :: rest) a w := by
  refine wpListIn_plain hgd fun K hK => ?_
  unfold Oper.wpIn
  refine ⟨?_, ?_⟩
  · simp [Oper.about, ho]
  · rw [Oper.semAt_plain F _ _ (by rw [ho]; intro c hc'; cases hc')]
    unfold execOp
    simp only [ho, hx, hy, Instr.storeAt, Instr.sureAddr, Sem.run_bind, Sem.run_pure, Result.andThen_ok, run_storeVar_row w g t ty old cells hg hi hold h1]
    exact hK _ _ h
theorem wpListIn_build_eqS (hgd : o.guard = none) (t : TypeId) (parts : List (Nat × Operand)) (ho : o.op = .build t parts.toArray)
    (vs : List (Nat × Value)) (hv : (parts.map fun (i, x) => (i, a.eval x)) = vs) (v : Value) (hrun : (Instr.build t vs.toArray).run P w = .ok v w) (h : wpListIn F n P ops Q rest (a.put o.dst v) w) : wpListIn F n P ops Q (o :: rest) a w := by
  refine wpListIn_plain hgd fun K hK => ?_
  unfold Oper.wpIn
  refine ⟨?_, ?_⟩
  · simp [Oper.about, ho]
  · rw [Oper.semAt_plain F _ _ (by rw [ho]; intro c hc'; cases hc')]
    unfold execOp
    simp only [ho, Sem.run_bind, List.map_toArray, hv, hrun, Result.andThen_ok]
    exact hK _ _ h
theorem wpListIn_slice_eqS (hgd : o.guard = none) (t : TypeId) (k : Nat) (parts : List (Nat × Operand)) (ho : o.op = .buildSlice t k parts.toArray)
    (vs : List (Nat × Value)) (hv : (parts.map fun (i, x) => (i, a.eval x)) = vs) (v : Value) (w' : World) (hrun : (Instr.buildSlice t k vs.toArray).run P w = .ok v w') (h : wpListIn F n P ops Q rest (a.put o.dst v) w') : wpListIn F n P ops Q (o :: rest) a w := by
  refine wpListIn_plain hgd fun K hK => ?_
  unfold Oper.wpIn
  refine ⟨?_, ?_⟩
  · simp [Oper.about, ho]
  · rw [Oper.semAt_plain F _ _ (by rw [ho]; intro c hc'; cases hc')]
    unfold execOp
    simp only [ho, Sem.run_bind, List.map_toArray, hv, hrun, Result.andThen_ok]
    exact hK _ _ h
theorem wpListIn_append_cgS (hgd : o.guard = none) (s x : Operand)
    (ho : o.op = .call { callee := .builtin .append, args := #[s, x], argTypes := #[40, 40] }) (base : Nat) (v : Value) (l : List Cg) (k : Nat) (hn : k = l.length) (hs : a.eval s = v) (hown : OwnC w base v l)
    (g : Nat) (y : Cg) (hx : a.eval x = .slice (some ⟨g, 0, none⟩) 1 1) (hy : CgB w g y) (hok : OkC y) (hlen : k ≤ 1000000) (hbase : base ≤ w.heap.size)
    (h : ∀ sp cap w', Hid (OwnC w' base (.slice (some ⟨sp, 0, none⟩) (k + 1) cap) (l ++ [y])) → Hid (Below base w w') → Hid (w.grownBy w' v.ownBlock) → wpListIn F n Tryd.prog ops Q rest (a.put o.dst (.slice (some ⟨sp, 0, none⟩) (k + 1) cap)) w') : wpListIn F n Tryd.prog ops Q (o :: rest) a w := by
  subst hn
  obtain ⟨i0, hi0, hz0, hz1, hz2⟩ := info_parts infoC3
  refine wpListIn_append_own w hgd s x _ ho base _ i0 _ 65 80 Tryd.underlying40 hi0 hz0 hz1 hz2 rfl (by decide) v l.length _ hs hown.1 ⟨g, 0, none⟩ 1 1 (cgL y) hx (by rw [cgL_length hok]) ?_ (cgL_one y) (by unfold maxLen; omega) (by omega) hbase ?_
  · intro j u hj
    rw [Addr.add_mid]
    exact hy.all j u hj
  · intro v' w' h1 h2 _
    obtain ⟨sp, cap, rfl⟩ := ownsRow_succ h1
    refine h sp cap w' ⟨by rw [rowsC_snoc, List.length_append]; exact h1, fun z hz => ?_⟩ ((Below.refl base w).grown h2 hbase (own_baseS hown.1)) h2
    rcases List.mem_append.1 hz with hz | hz
    · exact hown.2 z hz
    · rw [List.mem_singleton.1 hz]; exact hok
end

set_option maxHeartbeats 400000 in
theorem sideBySide_any (spa : Option Addr) (na ca : Nat) (spb : Option Addr) (nb cb : Nat) (w : World) :
    Calls Tryd.prog 104 #[.slice spa na ca, .slice spb nb cb] w fun e w' => e = .returned (.func (.func 139) #[] #[.pointer (some ⟨w.heap.size, 0, none⟩), .pointer (some ⟨w.heap.size + 1, 0, none⟩)]) ∧
      w' = (w.alloc (.cells #[.slice spa na ca] 40)).alloc (.cells #[.slice spb nb cb] 40) := by
  go_enter Tryd.func104, Tryd.ntmps104
  go_wp2
  go_ret
  exact ⟨rfl, rfl⟩
/-- the iterator's contract, as the law of the loop asks it -/
theorem sbs_stops (n : Nat) (hn : 1 ≤ n) (B ba bb : Nat) (spa : Option Addr) (na ca : Nat) (a : List Cg) (spb : Option Addr) (nb cb : Nat) (b : List Cg) (hna : na ≤ 1000000) (hnb : nb ≤ 1000000) (w : World)
    (hB : B ≤ w.heap.size) (hba : ba < w.heap.size) (hbb : bb < w.heap.size) (hc : SbIn w B ba bb spa na ca a spb nb cb b) :
    SeqStopsK Fence.wide n Tryd.prog 139 #[.pointer (some ⟨ba, 0, none⟩), .pointer (some ⟨bb, 0, none⟩)] encP (Keep3 B ba bb) (fun xs => xs.map (·.1) = sbs a b) (fun pre => pre.map (·.1) <+: sbs a b) (sbs a b).length w := by
  intro l J Jx W hW hJ hJx hY h0
  have hz := hW.size
  exact sbs_in n l B ba bb spa na ca a spb nb cb b hn hna hnb J Jx W (by omega) (by omega) (by omega)
    (fun pre X Y hj hb => hJ pre X Y none hj ⟨hb.os, hb.tape, hb.output, hb.size, fun k hk _ => hb.block k hk⟩ (fun r e => by cases e)) hY (hc.keep (Keep3.of_below hW hB hba hbb)) h0
end Go.Proofs.YtkookkhlgllneaaDoor
