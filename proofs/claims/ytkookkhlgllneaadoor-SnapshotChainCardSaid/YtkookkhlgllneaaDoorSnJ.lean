/-
  Two changes, two entries compared as structs; laws for regions that draw their order; the walks of few, light, SameChanges and Same (conditions: digests of 32 bytes, at most 1000000 elements).
-/
import Derived.Test.YtkookkhlgllneaaDoorSnI
import Derived.Laws.StructEq
namespace Go.Proofs.YtkookkhlgllneaaDoor
open Go.RowKit

theorem part_p (s : ByteArray) (l : List Value) (w : World) : (part 9 (Value.string s :: l).toArray 0).run Tryd.prog w = .ok (.string s) w := by
  have hu : (underlying 9).run Tryd.prog w = .ok .string w := run_underlying Tryd.underlying9 w
  simp [part, isAgg, hu]
set_option maxRecDepth 100000 in
theorem part_d (pre d post : List Value) (o : Nat) (ho : o = pre.length) (hd : d.length = 32) (w : World) : (part 28 (pre ++ (d ++ post)).toArray o).run Tryd.prog w = .ok (.agg d.toArray) w := by
  have hu := run_underlying Tryd.underlying28 w
  have hs : (sizeOf 28).run Tryd.prog w = .ok 32 w := by
    cases h : Tryd.prog.info? 28 with
    | none => have := infoD; rw [h] at this; cases this
    | some i => have := infoD; rw [h] at this; injection this with this; simp [sizeOf, typeInfo, h, this]
  subst ho
  simp only [part, isAgg, Sem.run_bind, hu, Result.andThen_ok, Sem.run_pure, if_true, hs]
  congr 2
  simp [List.extract_eq_take_drop, ← hd]
theorem fieldsC : (Tryd.prog.fieldsOf 81).toList.map (fun f => (f.name, f.type, f.offset)) = [("Path", 9, 0), ("Old", 28, 1), ("New", 28, 33)] := by kernel_rfl
theorem fieldsE : (Tryd.prog.fieldsOf 70).toList.map (fun f => (f.name, f.type, f.offset)) = [("Path", 9, 0), ("Digest", 28, 1)] := by kernel_rfl
theorem eqF_cons {d : Nat} {xs ys : Array Value} {f : Field} {fs : List Field} {a b : Value} {r : Bool} {w : World} (hn : f.name ≠ "_") (ha : (part f.type xs f.offset).run Tryd.prog w = .ok a w) (hb : (part f.type ys f.offset).run Tryd.prog w = .ok b w) (hr : (Op.equalIn d f.type a b).run Tryd.prog w = .ok r w) {q : Bool}
    (hq : (Op.eqFields d xs ys fs).run Tryd.prog w = .ok q w) : (Op.eqFields d xs ys (f :: fs)).run Tryd.prog w = .ok (r && q) w := by
  simp only [Op.eqFields, hn, ne_eq, not_false_eq_true, if_true, Sem.run_bind, ha, hb, hr, Result.andThen_ok]
  cases r
  · simp
  · simpa using hq
theorem eqIn_str (d : Nat) (a b : ByteArray) (w : World) : (Op.equalIn (d + 1) 9 (.string a) (.string b)).run Tryd.prog w = .ok (decide (a = b)) w := by
  rw [run_equalIn_string w d _ a b Tryd.underlying9]
  congr 1
  by_cases h : a = b
  · subst h; simp
  · rw [decide_eq_false h, beq_eq_false_iff_ne]; exact fun e => h (toList_inj e)
theorem three {l : List Field} {n1 n2 n3 : String} {t1 t2 t3 o1 o2 o3 : Nat} (h : l.map (fun f => (f.name, f.type, f.offset)) = [(n1, t1, o1), (n2, t2, o2), (n3, t3, o3)]) :
    ∃ f g k : Field, l = [f, g, k] ∧ (f.name = n1 ∧ f.type = t1 ∧ f.offset = o1) ∧ (g.name = n2 ∧ g.type = t2 ∧ g.offset = o2) ∧ (k.name = n3 ∧ k.type = t3 ∧ k.offset = o3) := by
  match l, h with
  | [f, g, k], h => simp at h; exact ⟨f, g, k, rfl, h.1, h.2.1, h.2.2⟩
theorem two {l : List Field} {n1 n2 : String} {t1 t2 o1 o2 : Nat} (h : l.map (fun f => (f.name, f.type, f.offset)) = [(n1, t1, o1), (n2, t2, o2)]) :
    ∃ f g : Field, l = [f, g] ∧ (f.name = n1 ∧ f.type = t1 ∧ f.offset = o1) ∧ (g.name = n2 ∧ g.type = t2 ∧ g.offset = o2) := by
  match l, h with
  | [f, g], h => simp at h; exact ⟨f, g, rfl, h.1, h.2⟩
set_option maxRecDepth 100000 in
theorem eqIn_C (x y : Cg) (hx : OkC x) (hy : OkC y) (w : World) : (Op.equalIn 10000 81 (.agg (cgL x).toArray) (.agg (cgL y).toArray)).run Tryd.prog w = .ok (decide (x = y)) w := by
  rw [run_equalIn_struct w 9999 _ _ _ (by kernel_rfl) (by kernel_rfl)]
  obtain ⟨f, g, k, e, ⟨f1, f2, f3⟩, ⟨g1, g2, g3⟩, ⟨k1, k2, k3⟩⟩ := three fieldsC
  rw [e]
  have po : ∀ z : Cg, OkC z → (part 28 (cgL z).toArray 1).run Tryd.prog w = .ok (.agg (z.o.map (Value.int .u8)).toArray) w := fun z hz => part_d [.string z.p] _ _ 1 rfl (by rw [List.length_map, hz.1.1]) w
  have pn : ∀ z : Cg, OkC z → (part 28 (cgL z).toArray 33).run Tryd.prog w = .ok (.agg (z.n.map (Value.int .u8)).toArray) w := fun z hz => by
    have := part_d (.string z.p :: z.o.map (Value.int .u8)) (z.n.map (Value.int .u8)) [] 33 (by rw [List.length_cons, List.length_map, hz.1.1]) (by rw [List.length_map, hz.2.1]) w
    simpa [cgL] using this
  have r := eqF_cons (d := 9999) (xs := (cgL x).toArray) (ys := (cgL y).toArray) (f := f) (fs := [g, k]) (by rw [f1]; decide) (by rw [f2, f3]; exact part_p x.p _ w) (by rw [f2, f3]; exact part_p y.p _ w) (by rw [f2]; exact eqIn_str 9998 x.p y.p w)
    (eqF_cons (by rw [g1]; decide) (by rw [g2, g3]; exact po x hx) (by rw [g2, g3]; exact po y hy) (by rw [g2]; exact eq_digD 9997 x.o y.o hx.1.1 hy.1.1 w)
      (eqF_cons (by rw [k1]; decide) (by rw [k2, k3]; exact pn x hx) (by rw [k2, k3]; exact pn y hy) (by rw [k2]; exact eq_digD 9997 x.n y.n hx.2.1 hy.2.1 w) (show (Op.eqFields 9999 _ _ []).run _ w = .ok true w by simp [Op.eqFields])))
  rw [r]
  congr 1
  rw [Bool.eq_iff_iff]
  cases x; cases y
  simp
set_option maxRecDepth 100000 in
theorem eqIn_E (x y : En) (hx : OkE x) (hy : OkE y) (w : World) : (Op.equalIn 10000 70 (.agg (enL x).toArray) (.agg (enL y).toArray)).run Tryd.prog w = .ok (decide (x = y)) w := by
  rw [run_equalIn_struct w 9999 _ _ _ (by kernel_rfl) (by kernel_rfl)]
  obtain ⟨f, g, e, ⟨f1, f2, f3⟩, ⟨g1, g2, g3⟩⟩ := two fieldsE
  rw [e]
  have po : ∀ z : En, OkE z → (part 28 (enL z).toArray 1).run Tryd.prog w = .ok (.agg (z.d.map (Value.int .u8)).toArray) w := fun z hz => by
    have := part_d [.string z.p] (z.d.map (Value.int .u8)) [] 1 rfl (by rw [List.length_map, hz.1]) w
    simpa [enL] using this
  have r := eqF_cons (d := 9999) (xs := (enL x).toArray) (ys := (enL y).toArray) (f := f) (fs := [g]) (by rw [f1]; decide) (by rw [f2, f3]; exact part_p x.p _ w) (by rw [f2, f3]; exact part_p y.p _ w) (by rw [f2]; exact eqIn_str 9998 x.p y.p w)
    (eqF_cons (by rw [g1]; decide) (by rw [g2, g3]; exact po x hx) (by rw [g2, g3]; exact po y hy) (by rw [g2]; exact eq_digD 9997 x.d y.d hx.1 hy.1 w) (show (Op.eqFields 9999 _ _ []).run _ w = .ok true w by simp [Op.eqFields]))
  rw [r]
  congr 1
  rw [Bool.eq_iff_iff]
  cases x; cases y
  simp
theorem yieldsIf_buildS {P : Program} {ops : Array Oper} {S : World → Prop} {op : Oper} {a : Act} (hw : Region.wanted op (yielded ops a.tmps) = true) (t : TypeId) (parts : List (Nat × Operand)) (ho : op.op = .build t parts.toArray)
    (vs : List (Nat × Value)) (hv : (parts.map fun (i, x) => (i, a.eval x)) = vs) (v : Value) (hrun : ∀ w, S w → (Instr.build t vs.toArray).run P w = .ok v w) : YieldsIf P ops S op v a :=
  .inl ⟨hw, fun w hw' => by
    unfold execOp
    simp only [ho, Sem.run_bind, List.map_toArray, hv, hrun w hw', Result.andThen_ok, Sem.run_pure]⟩
theorem wp_slice_eqS {P : Program} {o : Oper} {a : Act} {w : World} {K : Act → World → Prop} {Q : Exit → Act → World → Prop} (t : TypeId) (k : Nat) (parts : List (Nat × Operand)) (ho : o.op = .buildSlice t k parts.toArray)
    (vs : List (Nat × Value)) (hv : (parts.map fun (i, x) => (i, a.eval x)) = vs) (v : Value) (w' : World) (hrun : (Instr.buildSlice t k vs.toArray).run P w = .ok v w') (h : K (a.put o.dst v) w') : o.wp P a w K Q := by
  unfold Oper.wp execOp
  simp only [ho, Sem.run_bind, List.map_toArray, hv, hrun, Result.andThen_ok]
  exact h
theorem wp_append_cgS {o : Oper} {a : Act} {w : World} {K : Act → World → Prop} {Q : Exit → Act → World → Prop} (s x : Operand)
    (ho : o.op = .call { callee := .builtin .append, args := #[s, x], argTypes := #[40, 40] }) (base : Nat) (v : Value) (l : List Cg) (n : Nat) (hn : n = l.length) (hs : a.eval s = v) (hown : OwnC w base v l)
    (g : Nat) (y : Cg) (hx : a.eval x = .slice (some ⟨g, 0, none⟩) 1 1) (hy : CgB w g y) (hok : OkC y) (hlen : n ≤ 1000000) (hbase : base ≤ w.heap.size)
    (h : ∀ sp cap w', Hid (OwnC w' base (.slice sp (n + 1) cap) (l ++ [y])) → Hid (Below base w w') → Hid (w.grownBy w' v.ownBlock) → K (a.put o.dst (.slice sp (n + 1) cap)) w') : o.wp Tryd.prog a w K Q := by
  subst hn
  obtain ⟨i0, hi0, hz0, hz1, hz2⟩ := info_parts infoC3
  refine wp_append_own w s x _ ho base _ i0 _ 65 80 Tryd.underlying40 hi0 hz0 hz1 hz2 rfl (by decide) v l.length _ hs hown.1 ⟨g, 0, none⟩ 1 1 (cgL y) hx (by rw [cgL_length hok]) ?_ (cgL_one y) (by unfold maxLen; omega) (by omega) hbase ?_
  · intro j u hj
    rw [Addr.add_mid]
    exact hy.all j u hj
  · intro v' w' h1 h2 _
    obtain ⟨sp, cap, rfl⟩ := own_shapeS h1
    refine h sp cap w' ⟨by rw [rowsC_snoc, List.length_append]; exact h1, fun z hz => ?_⟩ ((Below.refl base w).grown h2 hbase (own_baseS hown.1)) h2
    rcases List.mem_append.1 hz with hz | hz
    · exact hown.2 z hz
    · rw [List.mem_singleton.1 hz]; exact hok
theorem wp_append_enS {o : Oper} {a : Act} {w : World} {K : Act → World → Prop} {Q : Exit → Act → World → Prop} (s x : Operand)
    (ho : o.op = .call { callee := .builtin .append, args := #[s, x], argTypes := #[22, 22] }) (base : Nat) (v : Value) (l : List En) (n : Nat) (hn : n = l.length) (hs : a.eval s = v) (hown : OwnE w base v l)
    (g : Nat) (y : En) (hx : a.eval x = .slice (some ⟨g, 0, none⟩) 1 1) (hy : EnB w g y) (hok : OkE y) (hlen : n ≤ 1000000) (hbase : base ≤ w.heap.size)
    (h : ∀ sp cap w', Hid (OwnE w' base (.slice sp (n + 1) cap) (l ++ [y])) → Hid (Below base w w') → Hid (w.grownBy w' v.ownBlock) → K (a.put o.dst (.slice sp (n + 1) cap)) w') : o.wp Tryd.prog a w K Q := by
  subst hn
  obtain ⟨i0, hi0, hz0, hz1, hz2⟩ := info_parts infoE3
  refine wp_append_own w s x _ ho base _ i0 _ 33 48 Tryd.underlying22 hi0 hz0 hz1 hz2 rfl (by decide) v l.length _ hs hown.1 ⟨g, 0, none⟩ 1 1 (enL y) hx (by rw [enL_length hok]) ?_ (enL_one y) (by unfold maxLen; omega) (by omega) hbase ?_
  · intro j u hj
    rw [Addr.add_mid]
    exact hy.all j u hj
  · intro v' w' h1 h2 _
    obtain ⟨sp, cap, rfl⟩ := own_shapeS h1
    refine h sp cap w' ⟨by rw [rowsE_snoc, List.length_append]; exact h1, fun z hz => ?_⟩ ((Below.refl base w).grown h2 hbase (own_baseS hown.1)) h2
    rcases List.mem_append.1 hz with hz | hz
    · exact hown.2 z hz
    · rw [List.mem_singleton.1 hz]; exact hok
theorem EnsIn.at {w : World} {B g off n cap : Nat} {l : List En} (h : EnsIn w B (some ⟨g, off, none⟩) n cap l) {i : Nat} {x : En} (hi : l[i]? = some x) : g < B ∧ w.rangeAt g (off + i * 33) (enL x) := by
  have hl := (List.getElem?_eq_some_iff.1 hi).1
  obtain ⟨b, o, e, hb, _, hr⟩ := h.cells (by have := h.len; omega)
  injection e with e; injection e with e1 e2; subst e1 e2
  exact ⟨hb, hr i x hi⟩
theorem rngE_p {w : World} {g o : Nat} {x : En} (h : w.rangeAt g o (enL x)) : w.cell? ⟨g, o, none⟩ = some (.string x.p) := h 0 _ rfl
theorem rngE_d {w : World} {g o : Nat} {x : En} (h : w.rangeAt g o (enL x)) : w.rangeAt g (o + 1) (x.d.map (Value.int .u8)) := rng_sub h 1 _ (fun j v hv => by
  unfold enL; rw [Nat.add_comm, List.getElem?_cons_succ]; exact hv)
/-- whether the first k elements are the same -/
def sameTo {α : Type} [DecidableEq α] (a b : List α) (k : Nat) : Bool := decide (a.take k = b.take k)
theorem sameTo_succ {α : Type} [DecidableEq α] {a b : List α} {k : Nat} {x y : α} (hx : a[k]? = some x) (hy : b[k]? = some y) (h : a.take k = b.take k) : a.take (k + 1) = b.take (k + 1) ↔ x = y := by
  rw [List.take_add_one, List.take_add_one, hx, hy, h]; simp
set_option maxRecDepth 100000 in
set_option maxHeartbeats 1000000 in
theorem sameC_any (sp1 : Option Addr) (n1 c1 : Nat) (a : List Cg) (sp2 : Option Addr) (n2 c2 : Nat) (b : List Cg) (w : World) (ha : CgsIn w w.heap.size sp1 n1 c1 a) (hb : CgsIn w w.heap.size sp2 n2 c2 b) (hn : n1 ≤ 1000000) :
    Calls Tryd.prog 25 #[.slice sp1 n1 c1, .slice sp2 n2 c2] w fun e w' => e = .returned (.bool (decide (a = b))) ∧ Below w.heap.size w w' := by
  have HA := Lib.hid ha; have HBb := Lib.hid hb; clear ha hb
  by_cases hne : n1 = n2
  · subst hne
    have hd : (!((n1 : Int) == (n1 : Int))) = false := by simp
    go_enter Tryd.func25, Tryd.ntmps25
    go_wp2_with fail
    go_loopw [5] (fun i wr => ∃ k : Nat, k ≤ n1 ∧ i = .int .i64 k ∧ Hid (a.take k = b.take k) ∧ Hid (Below w.heap.size w wr)) (fun i _ => n1 - (intOf i).toNat)
    case atStart => exact ⟨0, Nat.zero_le _, rfl, rfl, Below.refl _ _⟩
    case round =>
    obtain ⟨k, hk, rfl, HT, hbe⟩ := hrel
    by_cases hlt : k < n1
    · have hd : decide ((k : Int) < (n1 : Int)) = true := by simp; omega
      obtain ⟨x, hx⟩ : ∃ x, a[k]? = some x := ⟨a[k]'(by have := HA.out.len; omega), List.getElem?_eq_getElem _⟩
      obtain ⟨y, hy⟩ : ∃ y, b[k]? = some y := ⟨b[k]'(by have := HBb.out.len; omega), List.getElem?_eq_getElem _⟩
      obtain ⟨b1, o1, rfl, hb1, hcap1, -⟩ := HA.out.cells (by omega)
      obtain ⟨b2, o2, rfl, hb2, hcap2, -⟩ := HBb.out.cells (by omega)
      have HX := Lib.hid (range_belowS (HA.out.at hx).2 hbe.out.drew hb1)
      have HY := Lib.hid (range_belowS (HBb.out.at hy).2 hbe.out.drew hb2)
      have HIX := Lib.hid (info_c (HA.out.ok x (List.mem_of_getElem? hx)))
      have HIY := Lib.hid (info_c (HBb.out.ok y (List.mem_of_getElem? hy)))
      have HS := Lib.hid (sameTo_succ hx hy HT.out)
      have he := eqIn_C x y (HA.out.ok x (List.mem_of_getElem? hx)) (HBb.out.ok y (List.mem_of_getElem? hy))
      obtain ⟨c, hc⟩ : ∃ c, decide (x = y) = c := ⟨_, rfl⟩
      rw [hc] at he
      have HC := Lib.hid hc
      have p1 : (0 : Int) ≤ (k : Int) := by omega
      have p2 : (k : Int) < (n1 : Int) := by omega
      have q1 : IntKind.i64.wrap (k : Int) = (k : Int) := IntWalk.i64_in _ (by omega)
      have HB1 := Lib.hid hbe.out.drew
      clear hx hy hc
      go_wp2_with fail
      refine wp_region_held_drew (S := fun w' => w'.rangeAt b1 (o1 + k * 65) (cgL x) ∧ w'.rangeAt b2 (o2 + k * 65) (cgL y)) (by kernel_rfl) ⟨HX.out, HY.out⟩ (fun hHeld => ?_)
      refine wpAnyH_take (i := 0) (oi := _) (v := ?v0n1) rfl (by kernel_rfl) (by kernel_rfl) (by kernel_rfl) (fun _ _ _ h => h) (Or.inl ⟨by rfl, ?hy0n1⟩) (by assumption) ?rest0n1
      case hy0n1 =>
        intro w' hSw
        go_simp
        try with_reducible rfl
      try simp only [Act.put, List.getElem_toArray, List.getElem_cons_succ, List.getElem_cons_zero, List.setIfInBounds_toArray, List.set_cons_zero, List.set_cons_succ]
      refine wpAnyH_take (i := 1) (oi := _) (v := ?v1n2) rfl (by kernel_rfl) (by kernel_rfl) (by kernel_rfl) (fun _ _ _ h => h) (Or.inl ⟨by rfl, ?hy1n2⟩) (by assumption) ?rest1n2
      case hy1n2 =>
        intro w' hSw
        go_simp
        try with_reducible rfl
      try simp only [Act.put, List.getElem_toArray, List.getElem_cons_succ, List.getElem_cons_zero, List.setIfInBounds_toArray, List.set_cons_zero, List.set_cons_succ]
      refine wpAnyH_take (i := 2) (oi := _) (v := ?v2n3) rfl (by kernel_rfl) (by kernel_rfl) (by kernel_rfl) (fun _ _ _ h => h) (Or.inl ⟨by rfl, ?hy2n3⟩) (by assumption) ?rest2n3
      case hy2n3 =>
        intro w' hSw
        go_simp
        try with_reducible rfl
      try simp only [Act.put, List.getElem_toArray, List.getElem_cons_succ, List.getElem_cons_zero, List.setIfInBounds_toArray, List.set_cons_zero, List.set_cons_succ]
      refine' wpAnyH_take (i := 3) (oi := _) (v := _) rfl (by kernel_rfl) (by kernel_rfl) (by kernel_rfl) (fun _ _ _ h => h) (yieldsIf_load_mid (by rfl) _ _ rfl _ _ rfl _ _ ?hS3n4 Tryd.underlying81 rfl HIX.out) (by assumption) ?rest3n4
      case hS3n4 =>
        intro w' hSw
        exact hSw.1
      try simp only [Act.put, List.getElem_toArray, List.getElem_cons_succ, List.getElem_cons_zero, List.setIfInBounds_toArray, List.set_cons_zero, List.set_cons_succ]
      refine wpAnyH_take (i := 4) (oi := _) (v := ?v4n5) rfl (by kernel_rfl) (by kernel_rfl) (by kernel_rfl) (fun _ _ _ h => h) (Or.inl ⟨by rfl, ?hy4n5⟩) (by assumption) ?rest4n5
      case hy4n5 =>
        intro w' hSw
        go_simp
        try with_reducible rfl
      try simp only [Act.put, List.getElem_toArray, List.getElem_cons_succ, List.getElem_cons_zero, List.setIfInBounds_toArray, List.set_cons_zero, List.set_cons_succ]
      refine wpAnyH_take (i := 5) (oi := _) (v := ?v5n6) rfl (by kernel_rfl) (by kernel_rfl) (by kernel_rfl) (fun _ _ _ h => h) (Or.inl ⟨by rfl, ?hy5n6⟩) (by assumption) ?rest5n6
      case hy5n6 =>
        intro w' hSw
        go_simp
        try with_reducible rfl
      try simp only [Act.put, List.getElem_toArray, List.getElem_cons_succ, List.getElem_cons_zero, List.setIfInBounds_toArray, List.set_cons_zero, List.set_cons_succ]
      refine wpAnyH_take (i := 6) (oi := _) (v := ?v6n7) rfl (by kernel_rfl) (by kernel_rfl) (by kernel_rfl) (fun _ _ _ h => h) (Or.inl ⟨by rfl, ?hy6n7⟩) (by assumption) ?rest6n7
      case hy6n7 =>
        intro w' hSw
        go_simp
        try with_reducible rfl
      try simp only [Act.put, List.getElem_toArray, List.getElem_cons_succ, List.getElem_cons_zero, List.setIfInBounds_toArray, List.set_cons_zero, List.set_cons_succ]
      refine' wpAnyH_take (i := 7) (oi := _) (v := _) rfl (by kernel_rfl) (by kernel_rfl) (by kernel_rfl) (fun _ _ _ h => h) (yieldsIf_load_mid (by rfl) _ _ rfl _ _ rfl _ _ ?hS7n8 Tryd.underlying81 rfl HIY.out) (by assumption) ?rest7n8
      case hS7n8 =>
        intro w' hSw
        exact hSw.2
      try simp only [Act.put, List.getElem_toArray, List.getElem_cons_succ, List.getElem_cons_zero, List.setIfInBounds_toArray, List.set_cons_zero, List.set_cons_succ]
      refine wpAnyH_take (i := 8) (oi := _) (v := ?v8n9) rfl (by kernel_rfl) (by kernel_rfl) (by kernel_rfl) (fun _ _ _ h => h) (Or.inl ⟨by rfl, ?hy8n9⟩) (by assumption) ?rest8n9
      case hy8n9 =>
        intro w' hSw
        go_simp
        try with_reducible rfl
      try simp only [Act.put, List.getElem_toArray, List.getElem_cons_succ, List.getElem_cons_zero, List.setIfInBounds_toArray, List.set_cons_zero, List.set_cons_succ]
      refine wpAnyH_done (by kernel_rfl) ?_ _
      clear hHeld
      cases c
      · have HZ : Hid (decide (a = b) = false) := by
          show _ = _
          rw [decide_eq_false_iff_not]
          intro e
          have h1 := HC.out
          rw [decide_eq_false_iff_not] at h1
          exact h1 (HS.out.1 (by rw [e]))
        go_wp2_with fail
        go_ret
        exact ⟨ret_boolP HZ.out.symm, HB1.out⟩
      · go_wp2_with fail
        go_roundw
        case rel => exact ⟨k + 1, by omega, by go_num, HS.out.2 (by simpa using HC.out), HB1⟩
        case measure => simp [intOf]; omega
    · obtain rfl : k = n1 := by omega
      have hd : decide ((k : Int) < (k : Int)) = false := by simp
      have HZ : Hid (decide (a = b) = true) := by
        show _ = _
        have h1 := HT.out
        rw [List.take_of_length_le (by rw [HA.out.len]; exact Nat.le_refl _), List.take_of_length_le (by rw [HBb.out.len]; exact Nat.le_refl _)] at h1
        simpa using h1
      go_wp2_with fail
      go_ret
      exact ⟨ret_boolP HZ.out.symm, hbe.out⟩
  · have hd : (!((n1 : Int) == (n2 : Int))) = true := by simp; omega
    have HZ : Hid (decide (a = b) = false) := by
      show _ = _
      rw [decide_eq_false_iff_not]
      intro e
      apply hne
      rw [← HA.out.len, ← HBb.out.len, e]
    go_enter Tryd.func25, Tryd.ntmps25
    go_wp2_with fail
    go_ret
    exact ⟨ret_boolP HZ.out.symm, Below.refl _ _⟩
set_option maxRecDepth 100000 in
set_option maxHeartbeats 1000000 in
theorem sameE_any (sp1 : Option Addr) (n1 c1 : Nat) (a : List En) (sp2 : Option Addr) (n2 c2 : Nat) (b : List En) (w : World) (ha : EnsIn w w.heap.size sp1 n1 c1 a) (hb : EnsIn w w.heap.size sp2 n2 c2 b) (hn : n1 ≤ 1000000) :
    Calls Tryd.prog 19 #[.slice sp1 n1 c1, .slice sp2 n2 c2] w fun e w' => e = .returned (.bool (decide (a = b))) ∧ Below w.heap.size w w' := by
  have HA := Lib.hid ha; have HBb := Lib.hid hb; clear ha hb
  by_cases hne : n1 = n2
  · subst hne
    have hd : (!((n1 : Int) == (n1 : Int))) = false := by simp
    go_enter Tryd.func19, Tryd.ntmps19
    go_wp2_with fail
    go_loopw [5] (fun i wr => ∃ k : Nat, k ≤ n1 ∧ i = .int .i64 k ∧ Hid (a.take k = b.take k) ∧ Hid (Below w.heap.size w wr)) (fun i _ => n1 - (intOf i).toNat)
    case atStart => exact ⟨0, Nat.zero_le _, rfl, rfl, Below.refl _ _⟩
    case round =>
    obtain ⟨k, hk, rfl, HT, hbe⟩ := hrel
    by_cases hlt : k < n1
    · have hd : decide ((k : Int) < (n1 : Int)) = true := by simp; omega
      obtain ⟨x, hx⟩ : ∃ x, a[k]? = some x := ⟨a[k]'(by have := HA.out.len; omega), List.getElem?_eq_getElem _⟩
      obtain ⟨y, hy⟩ : ∃ y, b[k]? = some y := ⟨b[k]'(by have := HBb.out.len; omega), List.getElem?_eq_getElem _⟩
      obtain ⟨b1, o1, rfl, hb1, hcap1, -⟩ := HA.out.cells (by omega)
      obtain ⟨b2, o2, rfl, hb2, hcap2, -⟩ := HBb.out.cells (by omega)
      have HX := Lib.hid (range_belowS (HA.out.at hx).2 hbe.out.drew hb1)
      have HY := Lib.hid (range_belowS (HBb.out.at hy).2 hbe.out.drew hb2)
      have HIX := Lib.hid (info_e (HA.out.ok x (List.mem_of_getElem? hx)))
      have HIY := Lib.hid (info_e (HBb.out.ok y (List.mem_of_getElem? hy)))
      have HS := Lib.hid (sameTo_succ hx hy HT.out)
      have he := eqIn_E x y (HA.out.ok x (List.mem_of_getElem? hx)) (HBb.out.ok y (List.mem_of_getElem? hy))
      obtain ⟨c, hc⟩ : ∃ c, decide (x = y) = c := ⟨_, rfl⟩
      rw [hc] at he
      have HC := Lib.hid hc
      have p1 : (0 : Int) ≤ (k : Int) := by omega
      have p2 : (k : Int) < (n1 : Int) := by omega
      have q1 : IntKind.i64.wrap (k : Int) = (k : Int) := IntWalk.i64_in _ (by omega)
      have HB1 := Lib.hid hbe.out.drew
      clear hx hy hc
      go_wp2_with fail
      refine wp_region_held_drew (S := fun w' => w'.rangeAt b1 (o1 + k * 33) (enL x) ∧ w'.rangeAt b2 (o2 + k * 33) (enL y)) (by kernel_rfl) ⟨HX.out, HY.out⟩ (fun hHeld => ?_)
      refine wpAnyH_take (i := 0) (oi := _) (v := ?v0n10) rfl (by kernel_rfl) (by kernel_rfl) (by kernel_rfl) (fun _ _ _ h => h) (Or.inl ⟨by rfl, ?hy0n10⟩) (by assumption) ?rest0n10
      case hy0n10 =>
        intro w' hSw
        go_simp
        try with_reducible rfl
      try simp only [Act.put, List.getElem_toArray, List.getElem_cons_succ, List.getElem_cons_zero, List.setIfInBounds_toArray, List.set_cons_zero, List.set_cons_succ]
      refine wpAnyH_take (i := 1) (oi := _) (v := ?v1n11) rfl (by kernel_rfl) (by kernel_rfl) (by kernel_rfl) (fun _ _ _ h => h) (Or.inl ⟨by rfl, ?hy1n11⟩) (by assumption) ?rest1n11
      case hy1n11 =>
        intro w' hSw
        go_simp
        try with_reducible rfl
      try simp only [Act.put, List.getElem_toArray, List.getElem_cons_succ, List.getElem_cons_zero, List.setIfInBounds_toArray, List.set_cons_zero, List.set_cons_succ]
      refine wpAnyH_take (i := 2) (oi := _) (v := ?v2n12) rfl (by kernel_rfl) (by kernel_rfl) (by kernel_rfl) (fun _ _ _ h => h) (Or.inl ⟨by rfl, ?hy2n12⟩) (by assumption) ?rest2n12
      case hy2n12 =>
        intro w' hSw
        go_simp
        try with_reducible rfl
      try simp only [Act.put, List.getElem_toArray, List.getElem_cons_succ, List.getElem_cons_zero, List.setIfInBounds_toArray, List.set_cons_zero, List.set_cons_succ]
      refine' wpAnyH_take (i := 3) (oi := _) (v := _) rfl (by kernel_rfl) (by kernel_rfl) (by kernel_rfl) (fun _ _ _ h => h) (yieldsIf_load_mid (by rfl) _ _ rfl _ _ rfl _ _ ?hS3n13 Tryd.underlying70 rfl HIX.out) (by assumption) ?rest3n13
      case hS3n13 =>
        intro w' hSw
        exact hSw.1
      try simp only [Act.put, List.getElem_toArray, List.getElem_cons_succ, List.getElem_cons_zero, List.setIfInBounds_toArray, List.set_cons_zero, List.set_cons_succ]
      refine wpAnyH_take (i := 4) (oi := _) (v := ?v4n14) rfl (by kernel_rfl) (by kernel_rfl) (by kernel_rfl) (fun _ _ _ h => h) (Or.inl ⟨by rfl, ?hy4n14⟩) (by assumption) ?rest4n14
      case hy4n14 =>
        intro w' hSw
        go_simp
        try with_reducible rfl
      try simp only [Act.put, List.getElem_toArray, List.getElem_cons_succ, List.getElem_cons_zero, List.setIfInBounds_toArray, List.set_cons_zero, List.set_cons_succ]
      refine wpAnyH_take (i := 5) (oi := _) (v := ?v5n15) rfl (by kernel_rfl) (by kernel_rfl) (by kernel_rfl) (fun _ _ _ h => h) (Or.inl ⟨by rfl, ?hy5n15⟩) (by assumption) ?rest5n15
      case hy5n15 =>
        intro w' hSw
        go_simp
        try with_reducible rfl
      try simp only [Act.put, List.getElem_toArray, List.getElem_cons_succ, List.getElem_cons_zero, List.setIfInBounds_toArray, List.set_cons_zero, List.set_cons_succ]
      refine wpAnyH_take (i := 6) (oi := _) (v := ?v6n16) rfl (by kernel_rfl) (by kernel_rfl) (by kernel_rfl) (fun _ _ _ h => h) (Or.inl ⟨by rfl, ?hy6n16⟩) (by assumption) ?rest6n16
      case hy6n16 =>
        intro w' hSw
        go_simp
        try with_reducible rfl
      try simp only [Act.put, List.getElem_toArray, List.getElem_cons_succ, List.getElem_cons_zero, List.setIfInBounds_toArray, List.set_cons_zero, List.set_cons_succ]
      refine' wpAnyH_take (i := 7) (oi := _) (v := _) rfl (by kernel_rfl) (by kernel_rfl) (by kernel_rfl) (fun _ _ _ h => h) (yieldsIf_load_mid (by rfl) _ _ rfl _ _ rfl _ _ ?hS7n17 Tryd.underlying70 rfl HIY.out) (by assumption) ?rest7n17
      case hS7n17 =>
        intro w' hSw
        exact hSw.2
      try simp only [Act.put, List.getElem_toArray, List.getElem_cons_succ, List.getElem_cons_zero, List.setIfInBounds_toArray, List.set_cons_zero, List.set_cons_succ]
      refine wpAnyH_take (i := 8) (oi := _) (v := ?v8n18) rfl (by kernel_rfl) (by kernel_rfl) (by kernel_rfl) (fun _ _ _ h => h) (Or.inl ⟨by rfl, ?hy8n18⟩) (by assumption) ?rest8n18
      case hy8n18 =>
        intro w' hSw
        go_simp
        try with_reducible rfl
      try simp only [Act.put, List.getElem_toArray, List.getElem_cons_succ, List.getElem_cons_zero, List.setIfInBounds_toArray, List.set_cons_zero, List.set_cons_succ]
      refine wpAnyH_done (by kernel_rfl) ?_ _
      clear hHeld
      cases c
      · have HZ : Hid (decide (a = b) = false) := by
          show _ = _
          rw [decide_eq_false_iff_not]
          intro e
          have h1 := HC.out
          rw [decide_eq_false_iff_not] at h1
          exact h1 (HS.out.1 (by rw [e]))
        go_wp2_with fail
        go_ret
        exact ⟨ret_boolP HZ.out.symm, HB1.out⟩
      · go_wp2_with fail
        go_roundw
        case rel => exact ⟨k + 1, by omega, by go_num, HS.out.2 (by simpa using HC.out), HB1⟩
        case measure => simp [intOf]; omega
    · obtain rfl : k = n1 := by omega
      have hd : decide ((k : Int) < (k : Int)) = false := by simp
      have HZ : Hid (decide (a = b) = true) := by
        show _ = _
        have h1 := HT.out
        rw [List.take_of_length_le (by rw [HA.out.len]; exact Nat.le_refl _), List.take_of_length_le (by rw [HBb.out.len]; exact Nat.le_refl _)] at h1
        simpa using h1
      go_wp2_with fail
      go_ret
      exact ⟨ret_boolP HZ.out.symm, hbe.out⟩
  · have hd : (!((n1 : Int) == (n2 : Int))) = true := by simp; omega
    have HZ : Hid (decide (a = b) = false) := by
      show _ = _
      rw [decide_eq_false_iff_not]
      intro e
      apply hne
      rw [← HA.out.len, ← HBb.out.len, e]
    go_enter Tryd.func19, Tryd.ntmps19
    go_wp2_with fail
    go_ret
    exact ⟨ret_boolP HZ.out.symm, Below.refl _ _⟩
set_option maxHeartbeats 400000 in
theorem light4_any (sp : Option Addr) (n cap : Nat) (w : World) : Calls Tryd.prog 11 #[.slice sp n cap] w fun e w' => e = .returned (.bool (decide (n ≤ 200))) ∧ w = w' := by
  have hd : decide ((n : Int) ≤ 200) = decide (n ≤ 200) := by rw [decide_eq_decide]; omega
  go_enter Tryd.func11, Tryd.ntmps11
  go_wp2
  go_ret
  exact ⟨rfl, rfl⟩
end Go.Proofs.YtkookkhlgllneaaDoor
