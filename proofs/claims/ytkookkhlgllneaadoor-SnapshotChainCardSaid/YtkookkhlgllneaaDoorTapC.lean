/-
  The tape of the statements: the walk of Drop (conditions: digests of 32 bytes, at most 400000 elements).
-/
import Derived.Test.YtkookkhlgllneaaDoorTapB
import Derived.Test.YtkookkhlgllneaaDoorSnP
namespace Go.Proofs.YtkookkhlgllneaaDoor
open Go.RowKit

theorem slice0 (w : World) : (Instr.buildSlice 22 0 #[]).run Tryd.prog w = .ok (.slice (some ⟨w.heap.size, 0, none⟩) 0 0) (w.alloc (.cells #[] 70)) := by kernel_rfl
theorem own_empty (w : World) (B : Nat) (hB : B ≤ w.heap.size) : OwnE (w.alloc (.cells #[] 70)) B (.slice (some ⟨w.heap.size, 0, none⟩) 0 0) [] :=
  ⟨⟨by simp [rowsE], .inr ⟨w.heap.size, 0, #[], rfl, hB, heap_alloc_new w _, Nat.le_refl _, by unfold maxLen; omega, rfl, by simp [rowsE]⟩⟩, by simp⟩
theorem EnsIn.till {w : World} {B : Nat} {sp : Option Addr} {n cap : Nat} {l : List En} (h : EnsIn w B sp n cap l) {k : Nat} (hk : k ≤ n) : EnsIn w B sp k cap (l.take k) :=
  ⟨by rw [List.length_take, h.len]; omega, fun x hx => h.ok x (List.mem_of_mem_take hx), fun hn => by
    obtain ⟨b, off, rfl, hlt, hc, hr⟩ := h.cells (by omega)
    refine ⟨b, off, rfl, hlt, by omega, fun i x hi => hr i x ?_⟩
    rw [List.getElem?_take] at hi
    split at hi
    · exact hi
    · cases hi⟩
theorem run_till {t e : TypeId} {sz : Nat} (ht : Tryd.prog.underlying t = some (.slice e)) (he : (Tryd.prog.info? e).map (·.size) = some sz) (w : World) (sp : Option Addr) (n cap k : Nat) (hk : k ≤ n) (hc : n ≤ cap) :
    (Instr.slice t (.slice sp n cap) none (some (.int .i64 k)) none).run Tryd.prog w = .ok (.slice sp k cap) w := by
  have h1 : (0 : Int) ≤ (k : Int) ∧ (k : Int) ≤ (cap : Int) := ⟨by omega, by omega⟩
  have h2 : k ≤ cap := by omega
  have h3 : (sp.map fun a : Addr => a.add 0) = sp := by cases sp <;> simp [Addr.add]
  simp [Instr.slice, Instr.sliceBounds, Instr.sliceBound, asIntOf, run_underlying ht, sizeOf_of he, h2, h3]
theorem yieldsIf_till {t e : TypeId} {sz : Nat} (ht : Tryd.prog.underlying t = some (.slice e)) (he : (Tryd.prog.info? e).map (·.size) = some sz) {ops : Array Oper} {S : World → Prop} {op : Oper} {a : Act} (hw : Region.wanted op (yielded ops a.tmps) = true) (x hi : Operand) (ho : op.op = .slice t x none (some hi) none)
    (sp : Option Addr) (n cap k : Nat) (hx : a.eval x = .slice sp n cap) (hhi : a.eval hi = .int .i64 k) (hk : k ≤ n) (hc : n ≤ cap) : YieldsIf Tryd.prog ops S op (.slice sp k cap) a :=
  .inl ⟨hw, fun w _ => by
    unfold execOp
    simp only [ho, Option.map_some, Option.map_none, hx, hhi]
    have := run_till ht he w sp n cap k hk hc
    simp [Instr.sliceAt, run_underlying ht, this]⟩
set_option maxRecDepth 100000 in
set_option maxHeartbeats 1000000 in
theorem drop_any (sp : Option Addr) (n cap : Nat) (l : List En) (i : Nat) (w : World) (hl : EnsIn w w.heap.size sp n cap l) (hi : i < n) (hn : n ≤ 400000) :
    Calls Tryd.prog 61 #[.slice sp n cap, .int .i64 i] w fun e w' => ∃ sp' cap', e = .returned (.slice sp' (n - 1) cap') ∧ OwnE w' w.heap.size (.slice sp' (n - 1) cap') (l.take i ++ l.drop (i + 1)) ∧ Below w.heap.size w w' := by
  have HL := Lib.hid hl; clear hl
  obtain ⟨b, off, rfl, hbB, hcap, -⟩ := HL.out.cells (by omega)
  have HKL : Hid (0 + i = ([] ++ l.take i).length) := by show _ = _; rw [List.nil_append, List.length_take, HL.out.len]; omega
  have HKN : Hid (0 + i + (n - (i + 1)) = n - 1) := by show _ = _; omega
  have q1 : IntKind.i64.wrap ((i : Int) + 1) = ((i + 1 : Nat) : Int) := IntWalk.i64_in _ (by omega)
  go_enter Tryd.func61, Tryd.ntmps61
  go_wp2_with fail
  refine wp_region_held_drew (S := fun w' => EnsIn w' w.heap.size (some ⟨b, off, none⟩) n cap l ∧ Below w.heap.size w w') (by kernel_rfl) ⟨HL.out.below ((Below.refl w.heap.size w).drew) (Nat.le_refl _), (Below.refl w.heap.size w).drew⟩ (fun hHeld => ?_)
  refine wpAnyH_take (i := 1) (oi := _) (v := ?v1n1) rfl (by kernel_rfl) (by kernel_rfl) (by kernel_rfl) (fun _ _ _ h => h) (Or.inl ⟨by rfl, ?hy1n1⟩) (by assumption) ?rest1n1
  case hy1n1 =>
    intro w' hSw
    go_simp
    try with_reducible rfl
  try simp only [Act.put, List.getElem_toArray, List.getElem_cons_succ, List.getElem_cons_zero, List.setIfInBounds_toArray, List.set_cons_zero, List.set_cons_succ]
  refine wpAnyH_take (i := 2) (oi := _) (v := ?v2n2) rfl (by kernel_rfl) (by kernel_rfl) (by kernel_rfl) (fun _ _ _ h => h) (Or.inl ⟨by rfl, ?hy2n2⟩) (by assumption) ?rest2n2
  case hy2n2 =>
    intro w' hSw
    go_simp
    try with_reducible rfl
  try simp only [Act.put, List.getElem_toArray, List.getElem_cons_succ, List.getElem_cons_zero, List.setIfInBounds_toArray, List.set_cons_zero, List.set_cons_succ]
  refine' wpAnyH_take (i := 3) (oi := _) (v := _) rfl (by kernel_rfl) (by kernel_rfl) (by kernel_rfl) (fun _ _ _ h => h) (yieldsIf_till Tryd.underlying22 infoE (by rfl) _ _ rfl (some ⟨b, off, none⟩) n cap i rfl rfl (by omega) hcap) (by assumption) ?rest3n3
  try simp only [Act.put, List.getElem_toArray, List.getElem_cons_succ, List.getElem_cons_zero, List.setIfInBounds_toArray, List.set_cons_zero, List.set_cons_succ]
  refine wpAnyH_take (i := 5) (oi := _) (v := ?v5n4) rfl (by kernel_rfl) (by kernel_rfl) (by kernel_rfl) (fun _ _ _ h => h) (Or.inl ⟨by rfl, ?hy5n4⟩) (by assumption) ?rest5n4
  case hy5n4 =>
    intro w' hSw
    go_simp
    try with_reducible rfl
  try simp only [Act.put, List.getElem_toArray, List.getElem_cons_succ, List.getElem_cons_zero, List.setIfInBounds_toArray, List.set_cons_zero, List.set_cons_succ]
  refine wpAnyH_take (i := 6) (oi := _) (v := ?v6n5) rfl (by kernel_rfl) (by kernel_rfl) (by kernel_rfl) (fun _ _ _ h => h) (Or.inl ⟨by rfl, ?hy6n5⟩) (by assumption) ?rest6n5
  case hy6n5 =>
    intro w' hSw
    go_simp
    try with_reducible rfl
  try simp only [Act.put, List.getElem_toArray, List.getElem_cons_succ, List.getElem_cons_zero, List.setIfInBounds_toArray, List.set_cons_zero, List.set_cons_succ]
  refine wpAnyH_take (i := 7) (oi := _) (v := ?v7n6) rfl (by kernel_rfl) (by kernel_rfl) (by kernel_rfl) (fun _ _ _ h => h) (Or.inl ⟨by rfl, ?hy7n6⟩) (by assumption) ?rest7n6
  case hy7n6 =>
    intro w' hSw
    go_simp
    try with_reducible rfl
  try simp only [Act.put, List.getElem_toArray, List.getElem_cons_succ, List.getElem_cons_zero, List.setIfInBounds_toArray, List.set_cons_zero, List.set_cons_succ]
  refine' wpAnyH_take (i := 8) (oi := _) (v := _) rfl (by kernel_rfl) (by kernel_rfl) (by kernel_rfl) (fun _ _ _ h => h) (yieldsIf_cut Tryd.underlying22 infoE (by rfl) _ _ rfl (some ⟨b, off, none⟩) n cap (i + 1) rfl rfl (by omega)) (by assumption) ?rest8n7
  try simp only [Act.put, List.getElem_toArray, List.getElem_cons_succ, List.getElem_cons_zero, List.setIfInBounds_toArray, List.set_cons_zero, List.set_cons_succ]
  refine wpAnyH_ready (rs := [0]) (by kernel_rfl) (by simp) (AllReadyH.cons (o := _) rfl (fun K hK => ?_) AllReadyH.nil)
  rw [if_pos (by rfl)]
  refine wp_slice_eqS 22 0 [] rfl [] rfl _ _ (slice0 _) ?_
  generalize hw3 : World.alloc w.drew _ = w3
  have ho3 : OwnE w3 w.heap.size (.slice (some ⟨w.heap.size, 0, none⟩) 0 0) [] := by rw [← hw3]; exact own_empty w.drew _ (Nat.le_refl _)
  have hb3 : Below w.heap.size w w3 := by rw [← hw3]; exact ((Below.refl _ w).drew).alloc (Nat.le_refl _) _
  have HO3 := Lib.hid ho3
  have HB3 := Lib.hid hb3
  clear hw3 ho3 hb3
  refine hK.out _ _ ⟨HL.out.below HB3.out (Nat.le_refl _), HB3.out⟩ (fun hHeld => ?_)
  clear hK K
  try simp only [Act.put, List.getElem_toArray, List.getElem_cons_succ, List.getElem_cons_zero, List.setIfInBounds_toArray, List.set_cons_zero, List.set_cons_succ]
  refine wpAnyH_ready (rs := [4]) (by kernel_rfl) (by simp) (AllReadyH.cons (o := _) rfl (fun K hK => ?_) AllReadyH.nil)
  rw [if_pos (by rfl)]
  refine wp_appendsEnS (.tmp 5) (.tmp 8) rfl w.heap.size _ [] 0 rfl rfl HO3.out (some ⟨b, off, none⟩) i cap rfl ((HL.out.below HB3.out (Nat.le_refl _)).till (by omega)) (by intro h; cases h) (by omega) (by omega) HB3.out.size ?_
  intro sp4 cap4 w4 HO4 HB4
  have HB5 := Lib.hid (HB3.out.trans HB4.out)
  refine hK.out _ _ ⟨HL.out.below HB5.out (Nat.le_refl _), HB5.out⟩ (fun hHeld => ?_)
  clear hK K
  try simp only [Act.put, List.getElem_toArray, List.getElem_cons_succ, List.getElem_cons_zero, List.setIfInBounds_toArray, List.set_cons_zero, List.set_cons_succ]
  refine wpAnyH_ready (rs := [9]) (by kernel_rfl) (by simp) (AllReadyH.cons (o := _) rfl (fun K hK => ?_) AllReadyH.nil)
  rw [if_pos (by rfl)]
  refine wp_appendsEnS (.tmp 9) (.tmp 13) rfl w.heap.size _ _ (0 + i) HKL.out rfl HO4.out _ (n - (i + 1)) (cap - (i + 1)) rfl ((HL.out.below HB5.out (Nat.le_refl _)).cut (by omega)) (by rw [slP_none]; intro h; cases h) (by omega) (by omega) HB5.out.size ?_
  intro sp6 cap6 w6 HO6 HB6
  have HB7 := Lib.hid (HB5.out.trans HB6.out)
  refine hK.out _ _ ⟨HL.out.below HB7.out (Nat.le_refl _), HB7.out⟩ (fun hHeld => ?_)
  clear hK K
  try simp only [Act.put, List.getElem_toArray, List.getElem_cons_succ, List.getElem_cons_zero, List.setIfInBounds_toArray, List.set_cons_zero, List.set_cons_succ]
  refine wpAnyH_take (i := 10) (oi := _) (v := ?v10n8) rfl (by kernel_rfl) (by kernel_rfl) (by kernel_rfl) (fun _ _ _ h => h) (Or.inl ⟨by rfl, ?hy10n8⟩) (by assumption) ?rest10n8
  case hy10n8 =>
    intro w' hSw
    go_simp
    try with_reducible rfl
  try simp only [Act.put, List.getElem_toArray, List.getElem_cons_succ, List.getElem_cons_zero, List.setIfInBounds_toArray, List.set_cons_zero, List.set_cons_succ]
  refine wpAnyH_done (by kernel_rfl) ?_ _
  clear hHeld
  go_wp2_with fail
  go_ret
  rw [HKN.out] at HO6
  refine ⟨sp6, cap6, by show Ending.returned (.slice sp6 (i + (n - (i + 1))) cap6) = _; rw [show i + (n - (i + 1)) = n - 1 by omega], HO6.out, HB7.out⟩
end Go.Proofs.YtkookkhlgllneaaDoor
