/-
  Two changes, two entries compared as structs; laws for regions that draw their order; the walks of few, light, SameChanges and Same (conditions: digests of 32 bytes, at most 1000000 elements).
-/
import Derived.Test.YtkookkhlgllneaaDoorGc
import Derived.Laws.StructEq
import Derived.Test.YtkookkhlgllneaaDoorGa
namespace Go.Proofs.YtkookkhlgllneaaDoor
open Go.RowKit

theorem part_p (s : ByteArray) (l : List Value) (w : World) : (part 9 (Value.string s :: l).toArray 0).run Tryd.prog w = .ok (.string s) w := by
  have hu : (underlying 9).run Tryd.prog w = .ok .string w := run_underlying Tryd.underlying9 w
  simp [part, isAgg, hu]
set_option maxRecDepth 100000 in
theorem part_d (pre d post : List Value) (o : Nat) (ho : o = pre.length) (hd : d.length = 32) (w : World) : (part 28 (pre ++ (d ++ post)).toArray o).run Tryd.prog w = .ok (.agg d.toArray) w := by
  have hu := run_underlying Tryd.underlying28 w
  have hs : (sizeOf 28).run Tryd.prog w = .ok 32 w := by
    cases h : Tryd.prog.info? 28 with
    | none => have := infoD; rw [h] at this; cases this
    | some i => have := infoD; rw [h] at this; injection this with this; simp [sizeOf, typeInfo, h, this]
  subst ho
  simp only [part, isAgg, Sem.run_bind, hu, Result.andThen_ok, Sem.run_pure, if_true, hs]
  congr 2
  simp [List.extract_eq_take_drop, ← hd]
theorem fieldsC : (Tryd.prog.fieldsOf 81).toList.map (fun f => (f.name, f.type, f.offset)) = [("Path", 9, 0), ("Old", 28, 1), ("New", 28, 33)] := by kernel_rfl
theorem fieldsE : (Tryd.prog.fieldsOf 70).toList.map (fun f => (f.name, f.type, f.offset)) = [("Path", 9, 0), ("Digest", 28, 1)] := by kernel_rfl
theorem eqF_cons {d : Nat} {xs ys : Array Value} {f : Field} {fs : List Field} {a b : Value} {r : Bool} {w : World} (hn : f.name ≠ "_") (ha : (part f.type xs f.offset).run Tryd.prog w = .ok a w) (hb : (part f.type ys f.offset).run Tryd.prog w = .ok b w) (hr : (Op.equalIn d f.type a b).run Tryd.prog w = .ok r w) {q : Bool}
    (hq : (Op.eqFields d xs ys fs).run Tryd.prog w = .ok q w) : (Op.eqFields d xs ys (f :: fs)).run Tryd.prog w = .ok (r && q) w := by
  simp only [Op.eqFields, hn, ne_eq, not_false_eq_true, if_true, Sem.run_bind, ha, hb, hr, Result.andThen_ok]
  cases r
  · simp
  · simpa using hq
theorem eqIn_str (d : Nat) (a b : ByteArray) (w : World) : (Op.equalIn (d + 1) 9 (.string a) (.string b)).run Tryd.prog w = .ok (decide (a = b)) w := by
  rw [run_equalIn_string w d _ a b Tryd.underlying9]
  congr 1
  by_cases h : a = b
  · subst h; simp
  · rw [decide_eq_false h, beq_eq_false_iff_ne]; exact fun e => h (toList_inj e)
theorem three {l : List Field} {n1 n2 n3 : String} {t1 t2 t3 o1 o2 o3 : Nat} (h : l.map (fun f => (f.name, f.type, f.offset)) = [(n1, t1, o1), (n2, t2, o2), (n3, t3, o3)]) :
    ∃ f g k : Field, l = [f, g, k] ∧ (f.name = n1 ∧ f.type = t1 ∧ f.offset = o1) ∧ (g.name = n2 ∧ g.type = t2 ∧ g.offset = o2) ∧ (k.name = n3 ∧ k.type = t3 ∧ k.offset = o3) := by
  match l, h with
  | [f, g, k], h => simp at h; exact ⟨f, g, k, rfl, h.1, h.2.1, h.2.2⟩
theorem two {l : List Field} {n1 n2 : String} {t1 t2 o1 o2 : Nat} (h : l.map (fun f => (f.name, f.type, f.offset)) = [(n1, t1, o1), (n2, t2, o2)]) :
    ∃ f g : Field, l = [f, g] ∧ (f.name = n1 ∧ f.type = t1 ∧ f.offset = o1) ∧ (g.name = n2 ∧ g.type = t2 ∧ g.offset = o2) := by
  match l, h with
  | [f, g], h => simp at h; exact ⟨f, g, rfl, h.1, h.2⟩
set_option maxRecDepth 100000 in
theorem eqIn_C (x y : Cg) (hx : OkC x) (hy : OkC y) (w : World) : (Op.equalIn 10000 81 (.agg (cgL x).toArray) (.agg (cgL y).toArray)).run Tryd.prog w = .ok (decide (x = y)) w := by
  rw [run_equalIn_struct w 9999 _ _ _ (by kernel_rfl) (by kernel_rfl)]
  obtain ⟨f, g, k, e, ⟨f1, f2, f3⟩, ⟨g1, g2, g3⟩, ⟨k1, k2, k3⟩⟩ := three fieldsC
  rw [e]
  have po : ∀ z : Cg, OkC z → (part 28 (cgL z).toArray 1).run Tryd.prog w = .ok (.agg (z.o.map (Value.int .u8)).toArray) w := fun z hz => part_d [.string z.p] _ _ 1 rfl (by rw [List.length_map, hz.1.1]) w
  have pn : ∀ z : Cg, OkC z → (part 28 (cgL z).toArray 33).run Tryd.prog w = .ok (.agg (z.n.map (Value.int .u8)).toArray) w := fun z hz => by
    have := part_d (.string z.p :: z.o.map (Value.int .u8)) (z.n.map (Value.int .u8)) [] 33 (by rw [List.length_cons, List.length_map, hz.1.1]) (by rw [List.length_map, hz.2.1]) w
    simpa [cgL] using this
  have r := eqF_cons (d := 9999) (xs := (cgL x).toArray) (ys := (cgL y).toArray) (f := f) (fs := [g, k]) (by rw [f1]; decide) (by rw [f2, f3]; exact part_p x.p _ w) (by rw [f2, f3]; exact part_p y.p _ w) (by rw [f2]; exact eqIn_str 9998 x.p y.p w)
    (eqF_cons (by rw [g1]; decide) (by rw [g2, g3]; exact po x hx) (by rw [g2, g3]; exact po y hy) (by rw [g2]; exact eq_digD 9997 x.o y.o hx.1.1 hy.1.1 w)
      (eqF_cons (by rw [k1]; decide) (by rw [k2, k3]; exact pn x hx) (by rw [k2, k3]; exact pn y hy) (by rw [k2]; exact eq_digD 9997 x.n y.n hx.2.1 hy.2.1 w) (show (Op.eqFields 9999 _ _ []).run _ w = .ok true w by simp [Op.eqFields])))
  rw [r]
  congr 1
  rw [Bool.eq_iff_iff]
  cases x; cases y
  simp
set_option maxRecDepth 100000 in
theorem eqIn_E (x y : En) (hx : OkE x) (hy : OkE y) (w : World) : (Op.equalIn 10000 70 (.agg (enL x).toArray) (.agg (enL y).toArray)).run Tryd.prog w = .ok (decide (x = y)) w := by
  rw [run_equalIn_struct w 9999 _ _ _ (by kernel_rfl) (by kernel_rfl)]
  obtain ⟨f, g, e, ⟨f1, f2, f3⟩, ⟨g1, g2, g3⟩⟩ := two fieldsE
  rw [e]
  have po : ∀ z : En, OkE z → (part 28 (enL z).toArray 1).run Tryd.prog w = .ok (.agg (z.d.map (Value.int .u8)).toArray) w := fun z hz => by
    have := part_d [.string z.p] (z.d.map (Value.int .u8)) [] 1 rfl (by rw [List.length_map, hz.1]) w
    simpa [enL] using this
  have r := eqF_cons (d := 9999) (xs := (enL x).toArray) (ys := (enL y).toArray) (f := f) (fs := [g]) (by rw [f1]; decide) (by rw [f2, f3]; exact part_p x.p _ w) (by rw [f2, f3]; exact part_p y.p _ w) (by rw [f2]; exact eqIn_str 9998 x.p y.p w)
    (eqF_cons (by rw [g1]; decide) (by rw [g2, g3]; exact po x hx) (by rw [g2, g3]; exact po y hy) (by rw [g2]; exact eq_digD 9997 x.d y.d hx.1 hy.1 w) (show (Op.eqFields 9999 _ _ []).run _ w = .ok true w by simp [Op.eqFields]))
  rw [r]
  congr 1
  rw [Bool.eq_iff_iff]
  cases x; cases y
  simp
theorem yieldsIf_buildS {P : Program} {ops : Array Oper} {S : World → Prop} {op : Oper} {a : Act} (hw : Region.wanted op (yielded ops a.tmps) = true) (t : TypeId) (parts : List (Nat × Operand)) (ho : op.op = .build t parts.toArray)
    (vs : List (Nat × Value)) (hv : (parts.map fun (i, x) => (i, a.eval x)) = vs) (v : Value) (hrun : ∀ w, S w → (Instr.build t vs.toArray).run P w = .ok v w) : YieldsIf P ops S op v a :=
  .inl ⟨hw, fun w hw' => by
    unfold execOp
    simp only [ho, Sem.run_bind, List.map_toArray, hv, hrun w hw', Result.andThen_ok, Sem.run_pure]⟩
theorem wp_slice_eqS {P : Program} {o : Oper} {a : Act} {w : World} {K : Act → World → Prop} {Q : Exit → Act → World → Prop} (t : TypeId) (k : Nat) (parts : List (Nat × Operand)) (ho : o.op = .buildSlice t k parts.toArray)
    (vs : List (Nat × Value)) (hv : (parts.map fun (i, x) => (i, a.eval x)) = vs) (v : Value) (w' : World) (hrun : (Instr.buildSlice t k vs.toArray).run P w = .ok v w') (h : K (a.put o.dst v) w') : o.wp P a w K Q := by
  unfold Oper.wp execOp
  simp only [ho, Sem.run_bind, List.map_toArray, hv, hrun, Result.andThen_ok]
  exact h
theorem wp_append_cgS {o : Oper} {a : Act} {w : World} {K : Act → World → Prop} {Q : Exit → Act → World → Prop} (s x : Operand)
    (ho : o.op = .call { callee := .builtin .append, args := #[s, x], argTypes := #[40, 40] }) (base : Nat) (v : Value) (l : List Cg) (n : Nat) (hn : n = l.length) (hs : a.eval s = v) (hown : OwnC w base v l)
    (g : Nat) (y : Cg) (hx : a.eval x = .slice (some ⟨g, 0, none⟩) 1 1) (hy : CgB w g y) (hok : OkC y) (hlen : n ≤ 1000000) (hbase : base ≤ w.heap.size)
    (h : ∀ sp cap w', Hid (OwnC w' base (.slice sp (n + 1) cap) (l ++ [y])) → Hid (Below base w w') → Hid (w.grownBy w' v.ownBlock) → K (a.put o.dst (.slice sp (n + 1) cap)) w') : o.wp Tryd.prog a w K Q := by
  subst hn
  obtain ⟨i0, hi0, hz0, hz1, hz2⟩ := info_parts infoC3
  refine wp_append_own w s x _ ho base _ i0 _ 65 80 Tryd.underlying40 hi0 hz0 hz1 hz2 rfl (by decide) v l.length _ hs hown.1 ⟨g, 0, none⟩ 1 1 (cgL y) hx (by rw [cgL_length hok]) ?_ (cgL_one y) (by unfold maxLen; omega) (by omega) hbase ?_
  · intro j u hj
    rw [Addr.add_mid]
    exact hy.all j u hj
  · intro v' w' h1 h2 _
    obtain ⟨sp, cap, rfl⟩ := own_shapeS h1
    refine h sp cap w' ⟨by rw [rowsC_snoc, List.length_append]; exact h1, fun z hz => ?_⟩ ((Below.refl base w).grown h2 hbase (own_baseS hown.1)) h2
    rcases List.mem_append.1 hz with hz | hz
    · exact hown.2 z hz
    · rw [List.mem_singleton.1 hz]; exact hok
theorem wp_append_enS {o : Oper} {a : Act} {w : World} {K : Act → World → Prop} {Q : Exit → Act → World → Prop} (s x : Operand)
    (ho : o.op = .call { callee := .builtin .append, args := #[s, x], argTypes := #[22, 22] }) (base : Nat) (v : Value) (l : List En) (n : Nat) (hn : n = l.length) (hs : a.eval s = v) (hown : OwnE w base v l)
    (g : Nat) (y : En) (hx : a.eval x = .slice (some ⟨g, 0, none⟩) 1 1) (hy : EnB w g y) (hok : OkE y) (hlen : n ≤ 1000000) (hbase : base ≤ w.heap.size)
    (h : ∀ sp cap w', Hid (OwnE w' base (.slice sp (n + 1) cap) (l ++ [y])) → Hid (Below base w w') → Hid (w.grownBy w' v.ownBlock) → K (a.put o.dst (.slice sp (n + 1) cap)) w') : o.wp Tryd.prog a w K Q := by
  subst hn
  obtain ⟨i0, hi0, hz0, hz1, hz2⟩ := info_parts infoE3
  refine wp_append_own w s x _ ho base _ i0 _ 33 48 Tryd.underlying22 hi0 hz0 hz1 hz2 rfl (by decide) v l.length _ hs hown.1 ⟨g, 0, none⟩ 1 1 (enL y) hx (by rw [enL_length hok]) ?_ (enL_one y) (by unfold maxLen; omega) (by omega) hbase ?_
  · intro j u hj
    rw [Addr.add_mid]
    exact hy.all j u hj
  · intro v' w' h1 h2 _
    obtain ⟨sp, cap, rfl⟩ := own_shapeS h1
    refine h sp cap w' ⟨by rw [rowsE_snoc, List.length_append]; exact h1, fun z hz => ?_⟩ ((Below.refl base w).grown h2 hbase (own_baseS hown.1)) h2
    rcases List.mem_append.1 hz with hz | hz
    · exact hown.2 z hz
    · rw [List.mem_singleton.1 hz]; exact hok
theorem EnsIn.at {w : World} {B g off n cap : Nat} {l : List En} (h : EnsIn w B (some ⟨g, off, none⟩) n cap l) {i : Nat} {x : En} (hi : l[i]? = some x) : g < B ∧ w.rangeAt g (off + i * 33) (enL x) := by
  have hl := (List.getElem?_eq_some_iff.1 hi).1
  obtain ⟨b, o, e, hb, _, hr⟩ := h.cells (by have := h.len; omega)
  injection e with e; injection e with e1 e2; subst e1 e2
  exact ⟨hb, hr i x hi⟩
theorem rngE_p {w : World} {g o : Nat} {x : En} (h : w.rangeAt g o (enL x)) : w.cell? ⟨g, o, none⟩ = some (.string x.p) := h 0 _ rfl
theorem rngE_d {w : World} {g o : Nat} {x : En} (h : w.rangeAt g o (enL x)) : w.rangeAt g (o + 1) (x.d.map (Value.int .u8)) := rng_sub h 1 _ (fun j v hv => by
  unfold enL; rw [Nat.add_comm, List.getElem?_cons_succ]; exact hv)
/-- whether the first k elements are the same -/
def sameTo {α : Type} [DecidableEq α] (a b : List α) (k : Nat) : Bool := decide (a.take k = b.take k)
theorem sameTo_succ {α : Type} [DecidableEq α] {a b : List α} {k : Nat} {x y : α} (hx : a[k]? = some x) (hy : b[k]? = some y) (h : a.take k = b.take k) : a.take (k + 1) = b.take (k + 1) ↔ x = y := by
  rw [List.take_add_one, List.take_add_one, hx, hy, h]; simp
set_option maxRecDepth 100000 in
set_option maxHeartbeats 1000000 in
theorem sameC_any (sp1 : Option Addr) (n1 c1 : Nat) (a : List Cg) (sp2 : Option Addr) (n2 c2 : Nat) (b : List Cg) (w : World) (ha : CgsIn w w.heap.size sp1 n1 c1 a) (hb : CgsIn w w.heap.size sp2 n2 c2 b) (hn : n1 ≤ 1000000) :
    Calls Tryd.prog 25 #[.slice sp1 n1 c1, .slice sp2 n2 c2] w fun e w' => e = .returned (.bool (decide (a = b))) ∧ Below w.heap.size w w' := by
  have HA := Lib.hid ha; have HBb := Lib.hid hb; clear ha hb
  by_cases hne : n1 = n2
  · subst hne
    have hd : (!((n1 : Int) == (n1 : Int))) = false := by simp
    go_enter Tryd.func25, Tryd.ntmps25
    go_wp2_with fail
    go_loopw [5] (fun i wr => ∃ k : Nat, k ≤ n1 ∧ i = .int .i64 k ∧ Hid (a.take k = b.take k) ∧ Hid (Below w.heap.size w wr)) (fun i _ => n1 - (intOf i).toNat)
    case atStart => exact ⟨0, Nat.zero_le _, rfl, rfl, Below.refl _ _⟩
    case round =>
    obtain ⟨k, hk, rfl, HT, hbe⟩ := hrel
    by_cases hlt : k < n1
    · have hd : decide ((k : Int) < (n1 : Int)) = true := by simp; omega
      obtain ⟨x, hx⟩ : ∃ x, a[k]? = some x := ⟨a[k]'(by have := HA.out.len; omega), List.getElem?_eq_getElem _⟩
      obtain ⟨y, hy⟩ : ∃ y, b[k]? = some y := ⟨b[k]'(by have := HBb.out.len; omega), List.getElem?_eq_getElem _⟩
      obtain ⟨b1, o1, rfl, hb1, hcap1, -⟩ := HA.out.cells (by omega)
      obtain ⟨b2, o2, rfl, hb2, hcap2, -⟩ := HBb.out.cells (by omega)
      have HX := Lib.hid (range_belowS (HA.out.at hx).2 hbe.out.drew hb1)
      have HY := Lib.hid (range_belowS (HBb.out.at hy).2 hbe.out.drew hb2)
      have HIX := Lib.hid (info_c (HA.out.ok x (List.mem_of_getElem? hx)))
      have HIY := Lib.hid (info_c (HBb.out.ok y (List.mem_of_getElem? hy)))
      have HS := Lib.hid (sameTo_succ hx hy HT.out)
      have he := eqIn_C x y (HA.out.ok x (List.mem_of_getElem? hx)) (HBb.out.ok y (List.mem_of_getElem? hy))
      obtain ⟨c, hc⟩ : ∃ c, decide (x = y) = c := ⟨_, rfl⟩
      rw [hc] at he
      have HC := Lib.hid hc
      have p1 : (0 : Int) ≤ (k : Int) := by omega
      have p2 : (k : Int) < (n1 : Int) := by omega
      have q1 : IntKind.i64.wrap (k : Int) = (k : Int) := IntWalk.i64_in _ (by omega)
      have HB1 := Lib.hid hbe.out.drew
      clear hx hy hc
      go_wp2_with fail
      refine wp_region_held_drew (S := fun w' => w'.rangeAt b1 (o1 + k * 65) (cgL x) ∧ w'.rangeAt b2 (o2 + k * 65) (cgL y)) (by kernel_rfl) ⟨HX.out, HY.out⟩ (fun hHeld => ?_)
      refine wpAnyH_take (i := 0) (oi := _) (v := ?v0n1) rfl (by kernel_rfl) (by kernel_rfl) (by kernel_rfl) (fun _ _ _ h => h) (Or.inl ⟨by rfl, ?hy0n1⟩) (by assumption) ?rest0n1
      case hy0n1 =>
        intro w' hSw
        go_simp
        try with_reducible rfl
      try simp only [Act.put, List.getElem_toArray, List.getElem_cons_succ, List.getElem_cons_zero, List.setIfInBounds_toArray, List.set_cons_zero, List.set_cons_succ]
      refine wpAnyH_take (i := 1) (oi := _) (v := ?v1n2) rfl (by kernel_rfl) (by kernel_rfl) (by kernel_rfl) (fun _ _ _ h => h) (Or.inl ⟨by rfl, ?hy1n2⟩) (by assumption) ?rest1n2
      case hy1n2 =>
        intro w' hSw
        go_simp
        try with_reducible rfl
      try simp only [Act.put, List.getElem_toArray, List.getElem_cons_succ, List.getElem_cons_zero, List.setIfInBounds_toArray, List.set_cons_zero, List.set_cons_succ]
      refine wpAnyH_take (i := 2) (oi := _) (v := ?v2n3) rfl (by kernel_rfl) (by kernel_rfl) (by kernel_rfl) (fun _ _ _ h => h) (Or.inl ⟨by rfl, ?hy2n3⟩) (by assumption) ?rest2n3
      case hy2n3 =>
        intro w' hSw
        go_simp
        try with_reducible rfl
      try simp only [Act.put, List.getElem_toArray, List.getElem_cons_succ, List.getElem_cons_zero, List.setIfInBounds_toArray, List.set_cons_zero, List.set_cons_succ]
      refine' wpAnyH_take (i := 3) (oi := _) (v := _) rfl (by kernel_rfl) (by kernel_rfl) (by kernel_rfl) (fun _ _ _ h => h) (yieldsIf_load_mid (by rfl) _ _ rfl _ _ rfl _ _ ?hS3n4 Tryd.underlying81 rfl HIX.out) (by assumption) ?rest3n4
      case hS3n4 =>
        intro w' hSw
        exact hSw.1
      try simp only [Act.put, List.getElem_toArray, List.getElem_cons_succ, List.getElem_cons_zero, List.setIfInBounds_toArray, List.set_cons_zero, List.set_cons_succ]
      refine wpAnyH_take (i := 4) (oi := _) (v := ?v4n5) rfl (by kernel_rfl) (by kernel_rfl) (by kernel_rfl) (fun _ _ _ h => h) (Or.inl ⟨by rfl, ?hy4n5⟩) (by assumption) ?rest4n5
      case hy4n5 =>
        intro w' hSw
        go_simp
        try with_reducible rfl
      try simp only [Act.put, List.getElem_toArray, List.getElem_cons_succ, List.getElem_cons_zero, List.setIfInBounds_toArray, List.set_cons_zero, List.set_cons_succ]
      refine wpAnyH_take (i := 5) (oi := _) (v := ?v5n6) rfl (by kernel_rfl) (by kernel_rfl) (by kernel_rfl) (fun _ _ _ h => h) (Or.inl ⟨by rfl, ?hy5n6⟩) (by assumption) ?rest5n6
      case hy5n6 =>
        intro w' hSw
        go_simp
        try with_reducible rfl
      try simp only [Act.put, List.getElem_toArray, List.getElem_cons_succ, List.getElem_cons_zero, List.setIfInBounds_toArray, List.set_cons_zero, List.set_cons_succ]
      refine wpAnyH_take (i := 6) (oi := _) (v := ?v6n7) rfl (by kernel_rfl) (by kernel_rfl) (by kernel_rfl) (fun _ _ _ h => h) (Or.inl ⟨by rfl, ?hy6n7⟩) (by assumption) ?rest6n7
      case hy6n7 =>
        intro w' hSw
        go_simp
        try with_reducible rfl
      try simp only [Act.put, List.getElem_toArray, List.getElem_cons_succ, List.getElem_cons_zero, List.setIfInBounds_toArray, List.set_cons_zero, List.set_cons_succ]
      refine' wpAnyH_take (i := 7) (oi := _) (v := _) rfl (by kernel_rfl) (by kernel_rfl) (by kernel_rfl) (fun _ _ _ h => h) (yieldsIf_load_mid (by rfl) _ _ rfl _ _ rfl _ _ ?hS7n8 Tryd.underlying81 rfl HIY.out) (by assumption) ?rest7n8
      case hS7n8 =>
        intro w' hSw
        exact hSw.2
      try simp only [Act.put, List.getElem_toArray, List.getElem_cons_succ, List.getElem_cons_zero, List.setIfInBounds_toArray, List.set_cons_zero, List.set_cons_succ]
      refine wpAnyH_take (i := 8) (oi := _) (v := ?v8n9) rfl (by kernel_rfl) (by kernel_rfl) (by kernel_rfl) (fun _ _ _ h => h) (Or.inl ⟨by rfl, ?hy8n9⟩) (by assumption) ?rest8n9
      case hy8n9 =>
        intro w' hSw
        go_simp
        try with_reducible rfl
      try simp only [Act.put, List.getElem_toArray, List.getElem_cons_succ, List.getElem_cons_zero, List.setIfInBounds_toArray, List.set_cons_zero, List.set_cons_succ]
      refine wpAnyH_done (by kernel_rfl) ?_ _
      clear hHeld
      cases c
      · have HZ : Hid (decide (a = b) = false) := by
          show _ = _
          rw [decide_eq_false_iff_not]
          intro e
          have h1 := HC.out
          rw [decide_eq_false_iff_not] at h1
          exact h1 (HS.out.1 (by rw [e]))
        go_wp2_with fail
        go_ret
        exact ⟨ret_boolP HZ.out.symm, HB1.out⟩
      · go_wp2_with fail
        go_roundw
        case rel => exact ⟨k + 1, by omega, by go_num, HS.out.2 (by simpa using HC.out), HB1⟩
        case measure => simp [intOf]; omega
    · obtain rfl : k = n1 := by omega
      have hd : decide ((k : Int) < (k : Int)) = false := by simp
      have HZ : Hid (decide (a = b) = true) := by
        show _ = _
        have h1 := HT.out
        rw [List.take_of_length_le (by rw [HA.out.len]; exact Nat.le_refl _), List.take_of_length_le (by rw [HBb.out.len]; exact Nat.le_refl _)] at h1
        simpa using h1
      go_wp2_with fail
      go_ret
      exact ⟨ret_boolP HZ.out.symm, hbe.out⟩
  · have hd : (!((n1 : Int) == (n2 : Int))) = true := by simp; omega
    have HZ : Hid (decide (a = b) = false) := by
      show _ = _
      rw [decide_eq_false_iff_not]
      intro e
      apply hne
      rw [← HA.out.len, ← HBb.out.len, e]
    go_enter Tryd.func25, Tryd.ntmps25
    go_wp2_with fail
    go_ret
    exact ⟨ret_boolP HZ.out.symm, Below.refl _ _⟩
set_option maxRecDepth 100000 in
set_option maxHeartbeats 1000000 in
theorem sameE_any (sp1 : Option Addr) (n1 c1 : Nat) (a : List En) (sp2 : Option Addr) (n2 c2 : Nat) (b : List En) (w : World) (ha : EnsIn w w.heap.size sp1 n1 c1 a) (hb : EnsIn w w.heap.size sp2 n2 c2 b) (hn : n1 ≤ 1000000) :
    Calls Tryd.prog 19 #[.slice sp1 n1 c1, .slice sp2 n2 c2] w fun e w' => e = .returned (.bool (decide (a = b))) ∧ Below w.heap.size w w' := by
  have HA := Lib.hid ha; have HBb := Lib.hid hb; clear ha hb
  by_cases hne : n1 = n2
  · subst hne
    have hd : (!((n1 : Int) == (n1 : Int))) = false := by simp
    go_enter Tryd.func19, Tryd.ntmps19
    go_wp2_with fail
    go_loopw [5] (fun i wr => ∃ k : Nat, k ≤ n1 ∧ i = .int .i64 k ∧ Hid (a.take k = b.take k) ∧ Hid (Below w.heap.size w wr)) (fun i _ => n1 - (intOf i).toNat)
    case atStart => exact ⟨0, Nat.zero_le _, rfl, rfl, Below.refl _ _⟩
    case round =>
    obtain ⟨k, hk, rfl, HT, hbe⟩ := hrel
    by_cases hlt : k < n1
    · have hd : decide ((k : Int) < (n1 : Int)) = true := by simp; omega
      obtain ⟨x, hx⟩ : ∃ x, a[k]? = some x := ⟨a[k]'(by have := HA.out.len; omega), List.getElem?_eq_getElem _⟩
      obtain ⟨y, hy⟩ : ∃ y, b[k]? = some y := ⟨b[k]'(by have := HBb.out.len; omega), List.getElem?_eq_getElem _⟩
      obtain ⟨b1, o1, rfl, hb1, hcap1, -⟩ := HA.out.cells (by omega)
      obtain ⟨b2, o2, rfl, hb2, hcap2, -⟩ := HBb.out.cells (by omega)
      have HX := Lib.hid (range_belowS (HA.out.at hx).2 hbe.out.drew hb1)
      have HY := Lib.hid (range_belowS (HBb.out.at hy).2 hbe.out.drew hb2)
      have HIX := Lib.hid (info_e (HA.out.ok x (List.mem_of_getElem? hx)))
      have HIY := Lib.hid (info_e (HBb.out.ok y (List.mem_of_getElem? hy)))
      have HS := Lib.hid (sameTo_succ hx hy HT.out)
      have he := eqIn_E x y (HA.out.ok x (List.mem_of_getElem? hx)) (HBb.out.ok y (List.mem_of_getElem? hy))
      obtain ⟨c, hc⟩ : ∃ c, decide (x = y) = c := ⟨_, rfl⟩
      rw [hc] at he
      have HC := Lib.hid hc
      have p1 : (0 : Int) ≤ (k : Int) := by omega
      have p2 : (k : Int) < (n1 : Int) := by omega
      have q1 : IntKind.i64.wrap (k : Int) = (k : Int) := IntWalk.i64_in _ (by omega)
      have HB1 := Lib.hid hbe.out.drew
      clear hx hy hc
      go_wp2_with fail
      refine wp_region_held_drew (S := fun w' => w'.rangeAt b1 (o1 + k * 33) (enL x) ∧ w'.rangeAt b2 (o2 + k * 33) (enL y)) (by kernel_rfl) ⟨HX.out, HY.out⟩ (fun hHeld => ?_)
      refine wpAnyH_take (i := 0) (oi := _) (v := ?v0n10) rfl (by kernel_rfl) (by kernel_rfl) (by kernel_rfl) (fun _ _ _ h => h) (Or.inl ⟨by rfl, ?hy0n10⟩) (by assumption) ?rest0n10
      case hy0n10 =>
        intro w' hSw
        go_simp
        try with_reducible rfl
      try simp only [Act.put, List.getElem_toArray, List.getElem_cons_succ, List.getElem_cons_zero, List.setIfInBounds_toArray, List.set_cons_zero, List.set_cons_succ]
      refine wpAnyH_take (i := 1) (oi := _) (v := ?v1n11) rfl (by kernel_rfl) (by kernel_rfl) (by kernel_rfl) (fun _ _ _ h => h) (Or.inl ⟨by rfl, ?hy1n11⟩) (by assumption) ?rest1n11
      case hy1n11 =>
        intro w' hSw
        go_simp
        try with_reducible rfl
      try simp only [Act.put, List.getElem_toArray, List.getElem_cons_succ, List.getElem_cons_zero, List.setIfInBounds_toArray, List.set_cons_zero, List.set_cons_succ]
      refine wpAnyH_take (i := 2) (oi := _) (v := ?v2n12) rfl (by kernel_rfl) (by kernel_rfl) (by kernel_rfl) (fun _ _ _ h => h) (Or.inl ⟨by rfl, ?hy2n12⟩) (by assumption) ?rest2n12
      case hy2n12 =>
        intro w' hSw
        go_simp
        try with_reducible rfl
      try simp only [Act.put, List.getElem_toArray, List.getElem_cons_succ, List.getElem_cons_zero, List.setIfInBounds_toArray, List.set_cons_zero, List.set_cons_succ]
      refine' wpAnyH_take (i := 3) (oi := _) (v := _) rfl (by kernel_rfl) (by kernel_rfl) (by kernel_rfl) (fun _ _ _ h => h) (yieldsIf_load_mid (by rfl) _ _ rfl _ _ rfl _ _ ?hS3n13 Tryd.underlying70 rfl HIX.out) (by assumption) ?rest3n13
      case hS3n13 =>
        intro w' hSw
        exact hSw.1
      try simp only [Act.put, List.getElem_toArray, List.getElem_cons_succ, List.getElem_cons_zero, List.setIfInBounds_toArray, List.set_cons_zero, List.set_cons_succ]
      refine wpAnyH_take (i := 4) (oi := _) (v := ?v4n14) rfl (by kernel_rfl) (by kernel_rfl) (by kernel_rfl) (fun _ _ _ h => h) (Or.inl ⟨by rfl, ?hy4n14⟩) (by assumption) ?rest4n14
      case hy4n14 =>
        intro w' hSw
        go_simp
        try with_reducible rfl
      try simp only [Act.put, List.getElem_toArray, List.getElem_cons_succ, List.getElem_cons_zero, List.setIfInBounds_toArray, List.set_cons_zero, List.set_cons_succ]
      refine wpAnyH_take (i := 5) (oi := _) (v := ?v5n15) rfl (by kernel_rfl) (by kernel_rfl) (by kernel_rfl) (fun _ _ _ h => h) (Or.inl ⟨by rfl, ?hy5n15⟩) (by assumption) ?rest5n15
      case hy5n15 =>
        intro w' hSw
        go_simp
        try with_reducible rfl
      try simp only [Act.put, List.getElem_toArray, List.getElem_cons_succ, List.getElem_cons_zero, List.setIfInBounds_toArray, List.set_cons_zero, List.set_cons_succ]
      refine wpAnyH_take (i := 6) (oi := _) (v := ?v6n16) rfl (by kernel_rfl) (by kernel_rfl) (by kernel_rfl) (fun _ _ _ h => h) (Or.inl ⟨by rfl, ?hy6n16⟩) (by assumption) ?rest6n16
      case hy6n16 =>
        intro w' hSw
        go_simp
        try with_reducible rfl
      try simp only [Act.put, List.getElem_toArray, List.getElem_cons_succ, List.getElem_cons_zero, List.setIfInBounds_toArray, List.set_cons_zero, List.set_cons_succ]
      refine' wpAnyH_take (i := 7) (oi := _) (v := _) rfl (by kernel_rfl) (by kernel_rfl) (by kernel_rfl) (fun _ _ _ h => h) (yieldsIf_load_mid (by rfl) _ _ rfl _ _ rfl _ _ ?hS7n17 Tryd.underlying70 rfl HIY.out) (by assumption) ?rest7n17
      case hS7n17 =>
        intro w' hSw
        exact hSw.2
      try simp only [Act.put, List.getElem_toArray, List.getElem_cons_succ, List.getElem_cons_zero, List.setIfInBounds_toArray, List.set_cons_zero, List.set_cons_succ]
      refine wpAnyH_take (i := 8) (oi := _) (v := ?v8n18) rfl (by kernel_rfl) (by kernel_rfl) (by kernel_rfl) (fun _ _ _ h => h) (Or.inl ⟨by rfl, ?hy8n18⟩) (by assumption) ?rest8n18
      case hy8n18 =>
        intro w' hSw
        go_simp
        try with_reducible rfl
      try simp only [Act.put, List.getElem_toArray, List.getElem_cons_succ, List.getElem_cons_zero, List.setIfInBounds_toArray, List.set_cons_zero, List.set_cons_succ]
      refine wpAnyH_done (by kernel_rfl) ?_ _
      clear hHeld
      cases c
      · have HZ : Hid (decide (a = b) = false) := by
          show _ = _
          rw [decide_eq_false_iff_not]
          intro e
          have h1 := HC.out
          rw [decide_eq_false_iff_not] at h1
          exact h1 (HS.out.1 (by rw [e]))
        go_wp2_with fail
        go_ret
        exact ⟨ret_boolP HZ.out.symm, HB1.out⟩
      · go_wp2_with fail
        go_roundw
        case rel => exact ⟨k + 1, by omega, by go_num, HS.out.2 (by simpa using HC.out), HB1⟩
        case measure => simp [intOf]; omega
    · obtain rfl : k = n1 := by omega
      have hd : decide ((k : Int) < (k : Int)) = false := by simp
      have HZ : Hid (decide (a = b) = true) := by
        show _ = _
        have h1 := HT.out
        rw [List.take_of_length_le (by rw [HA.out.len]; exact Nat.le_refl _), List.take_of_length_le (by rw [HBb.out.len]; exact Nat.le_refl _)] at h1
        simpa using h1
      go_wp2_with fail
      go_ret
      exact ⟨ret_boolP HZ.out.symm, hbe.out⟩
  · have hd : (!((n1 : Int) == (n2 : Int))) = true := by simp; omega
    have HZ : Hid (decide (a = b) = false) := by
      show _ = _
      rw [decide_eq_false_iff_not]
      intro e
      apply hne
      rw [← HA.out.len, ← HBb.out.len, e]
    go_enter Tryd.func19, Tryd.ntmps19
    go_wp2_with fail
    go_ret
    exact ⟨ret_boolP HZ.out.symm, Below.refl _ _⟩
set_option maxHeartbeats 400000 in
theorem light4_any (sp : Option Addr) (n cap : Nat) (w : World) : Calls Tryd.prog 11 #[.slice sp n cap] w fun e w' => e = .returned (.bool (decide (n ≤ 200))) ∧ w = w' := by
  have hd : decide ((n : Int) ≤ 200) = decide (n ≤ 200) := by rw [decide_eq_decide]; omega
  go_enter Tryd.func11, Tryd.ntmps11
  go_wp2
  go_ret
  exact ⟨rfl, rfl⟩
end Go.Proofs.YtkookkhlgllneaaDoor

namespace Go.Proofs.YtkookkhlgllneaaDoor
open Go.RowKit

theorem wpList_load_mid_g {P : Program} {ops : Array Oper} {rest : List Oper} {o : Oper} {a : Act} {w : World} {Q : Exit → Act → World → Prop} (hw : Region.wanted o (yielded ops a.tmps) = true) (ty : TypeId) (x : Operand) (ho : o.op = .load ty x)
    (b k : Nat) (hx : a.eval x = .pointer (some ⟨b, k, none⟩)) (cs : List Value) (d : TypeDesc) (hc : w.rangeAt b k cs)
    (hu : P.underlying ty = some d) (hd : d.isRow = true) (hi : (P.info? ty).map (·.size) = some cs.length)
    (h : wpList P ops Q rest (a.put o.dst (.agg cs.toArray)) w) : wpList P ops Q (o :: rest) a w :=
  wpList_step fun K hK => by rw [if_pos hw]; exact wp_load_mid ty x ho b k hx cs d hc hu hd hi (hK _ _ h)
set_option maxRecDepth 100000 in
set_option maxHeartbeats 400000 in
theorem fine_any (x : En) (w : World) (hx : OkE x) :
    Calls Tryd.prog 55 #[.agg (enL x).toArray] w fun e w' => e = .returned (.bool (!badE x)) ∧ Below w.heap.size w w' := by
  have hp := (EnB.new w x).p
  have HN := Lib.hid (EnB.new w x)
  have HB := Lib.hid ((Below.refl w.heap.size w).alloc (Nat.le_refl _) (.cells (enL x).toArray 70))
  have HO := Lib.hid (info_d hx)
  have hs : w.heap.size < (w.alloc (.cells (enL x).toArray 70)).heap.size := by simp
  have he := neqZ x.d hx.1
  clear hx
  obtain ⟨c, hc⟩ : ∃ c, pathB x.p = c := ⟨_, rfl⟩
  have hP := fun w' => refPath_any x.p w'
  rw [hc] at hP
  have HP := Lib.hid hP; have HC := Lib.hid hc; clear hP hc
  cases c
  · have HZ : Hid ((!badE x) = false) := by show _ = _; unfold badE; rw [HC.out]; simp
    go_enter Tryd.func55, Tryd.ntmps55
    go_wp2_with fail
    refine (HP.out _).mono ?_
    rintro e w1 ⟨rfl, hb1⟩
    have HB1 := Lib.hid hb1; clear hb1
    go_wp2
    go_ret
    exact ⟨ret_boolP HZ.out.symm, HB.out.trans (HB1.out.mono HB.out.size)⟩
  · have HZ : Hid ((!badE x) = !decide (x.d = zed)) := by show _ = _; unfold badE; rw [HC.out]; simp
    go_enter Tryd.func55, Tryd.ntmps55
    go_wp2_with fail
    refine (HP.out _).mono ?_
    rintro e w1 ⟨rfl, hb1⟩
    have HR := Lib.hid (HN.out.below hb1 hs).d
    have HB1 := Lib.hid hb1; clear hb1
    go_wp2_with (refine wpList_load_mid_g (by rfl) 28 _ rfl w.heap.size 1 rfl _ _ HR.out Tryd.underlying28 rfl HO.out ?_)
    go_ret
    exact ⟨ret_boolP HZ.out.symm, HB.out.trans (HB1.out.mono HB.out.size)⟩
set_option maxRecDepth 100000 in
set_option maxHeartbeats 2000000 in
theorem refValid_any (sp : Option Addr) (n cap : Nat) (l : List En) (w : World) (hl : EnsIn w w.heap.size sp n cap l) (hn : n ≤ 1000000) :
    Calls Tryd.prog 18 #[.slice sp n cap] w fun e w' => e = .returned (.bool (vldE l)) ∧ Below w.heap.size w w' := by
  have HL := Lib.hid hl; clear hl
  by_cases h64 : 64 < n
  · have hd : decide ((n : Int) > 64) = true := by simp; omega
    have HV : Hid (vldE l = false) := by show _ = _; unfold vldE; rw [decide_eq_false (by rw [HL.out.len]; omega)]; rfl
    go_enter Tryd.func18, Tryd.ntmps18
    go_wp2_with fail
    go_ret
    exact ⟨ret_boolP HV.out.symm, Below.refl _ _⟩
  have hd : decide ((n : Int) > 64) = false := by simp; omega
  have HV : Hid (vldE l = (!l.any badE && ascB En.p l)) := by show _ = _; unfold vldE; rw [decide_eq_true (by rw [HL.out.len]; omega)]; rfl
  go_enter Tryd.func18, Tryd.ntmps18
  go_wp2_with fail
  clear hd
  go_loopw [3] (fun i wr => ∃ k : Nat, k ≤ n ∧ i = .int .i64 k ∧ Hid ((l.take k).any badE = false) ∧ Hid (upto En.p l (k - 1) = true) ∧ Hid (Below w.heap.size w wr)) (fun i _ => n - (intOf i).toNat)
  case atStart => exact ⟨0, Nat.zero_le _, rfl, rfl, rfl, Below.refl _ _⟩
  case round =>
  obtain ⟨k, hk, rfl, HA, HU, hbe⟩ := hrel
  by_cases hlt : k < n
  · obtain ⟨x, hx⟩ : ∃ x, l[k]? = some x := ⟨l[k]'(by have := HL.out.len; omega), List.getElem?_eq_getElem _⟩
    obtain ⟨b, off, rfl, hbB, hcap, -⟩ := HL.out.cells (by omega)
    have hxm := List.mem_of_getElem? hx
    have hF := fun w' => fine_any x w' (HL.out.ok x hxm)
    have HIX := Lib.hid (info_e (HL.out.ok x hxm))
    have HT : Hid ((l.take (k + 1)).any badE = ((l.take k).any badE || badE x)) := by show _ = _; rw [List.take_add_one, List.any_append, hx]; simp
    have HM : Hid (badE x = true → vldE l = false) := fun h => by rw [HV.out, List.any_eq_true.2 ⟨x, hxm, h⟩]; rfl
    obtain ⟨c, hc⟩ : ∃ c, badE x = c := ⟨_, rfl⟩
    rw [hc] at hF
    have HF := Lib.hid hF; have HC := Lib.hid hc; clear hF hc
    have hbd := hbe.out.drew
    cases c
    · by_cases hk0 : k = 0
      · have hd0 : decide ((k : Int) > 0) = false := by simp; omega
        have hd0a : decide (0 < k) = false := by rw [hk0]; rfl
        have hd0b : ¬ 0 < k := by omega
        have hd : decide ((k : Int) < (n : Int)) = true := by simp; omega
        have p1 : (0 : Int) ≤ (k : Int) := by omega
        have p2 : (k : Int) < (n : Int) := by omega
        have q1 : IntKind.i64.wrap (k : Int) = (k : Int) := IntWalk.i64_in _ (by omega)
        have HALL : Hid (∀ w', Below w.heap.size w w' → w'.rangeAt b (off + k * 33) (enL x) ∧ True) := fun w' hb => ⟨range_belowS (HL.out.at hx).2 hb hbB, trivial⟩
        have HU2 : Hid (upto En.p l (k + 1 - 1) = true) := by show _ = _; rw [hk0]; rfl
        clear hx hxm hk0
        go_wp2_with fail
        refine wp_region_held_drew (S := fun w' => w'.rangeAt b (off + k * 33) (enL x) ∧ True) (by kernel_rfl) (HALL.out _ hbd) (fun hHeld => ?_)
        refine wpAnyH_take (i := 0) (oi := _) (v := ?v0n1) rfl (by kernel_rfl) (by kernel_rfl) (by kernel_rfl) (fun _ _ _ h => h) (Or.inl ⟨by rfl, ?hy0n1⟩) (by assumption) ?rest0n1
        case hy0n1 =>
          intro w' hSw
          go_simp
          try with_reducible rfl
        try simp only [Act.put, List.getElem_toArray, List.getElem_cons_succ, List.getElem_cons_zero, List.setIfInBounds_toArray, List.set_cons_zero, List.set_cons_succ]
        refine wpAnyH_take (i := 1) (oi := _) (v := ?v1n2) rfl (by kernel_rfl) (by kernel_rfl) (by kernel_rfl) (fun _ _ _ h => h) (Or.inl ⟨by rfl, ?hy1n2⟩) (by assumption) ?rest1n2
        case hy1n2 =>
          intro w' hSw
          go_simp
          try with_reducible rfl
        try simp only [Act.put, List.getElem_toArray, List.getElem_cons_succ, List.getElem_cons_zero, List.setIfInBounds_toArray, List.set_cons_zero, List.set_cons_succ]
        refine wpAnyH_take (i := 2) (oi := _) (v := ?v2n3) rfl (by kernel_rfl) (by kernel_rfl) (by kernel_rfl) (fun _ _ _ h => h) (Or.inl ⟨by rfl, ?hy2n3⟩) (by assumption) ?rest2n3
        case hy2n3 =>
          intro w' hSw
          go_simp
          try with_reducible rfl
        try simp only [Act.put, List.getElem_toArray, List.getElem_cons_succ, List.getElem_cons_zero, List.setIfInBounds_toArray, List.set_cons_zero, List.set_cons_succ]
        refine' wpAnyH_take (i := 3) (oi := _) (v := _) rfl (by kernel_rfl) (by kernel_rfl) (by kernel_rfl) (fun _ _ _ h => h) (yieldsIf_load_mid (by rfl) _ _ rfl _ _ rfl _ _ ?hS3n4 Tryd.underlying70 rfl HIX.out) (by assumption) ?rest3n4
        case hS3n4 =>
          intro w' hSw
          exact hSw.1
        try simp only [Act.put, List.getElem_toArray, List.getElem_cons_succ, List.getElem_cons_zero, List.setIfInBounds_toArray, List.set_cons_zero, List.set_cons_succ]
        refine wpAnyH_ready (rs := [4]) (by kernel_rfl) (by simp) (AllReadyH.cons (o := _) rfl (fun K hK => ?_) AllReadyH.nil)
        go_simp
        with_reducible refine (HF.out _).mono ?_
        rintro e w1 ⟨rfl, hb1⟩
        go_wp2_with fail
        refine hK.out _ _ (HALL.out _ (hbd.trans (hb1.mono hbd.size))) (fun hHeld => ?_)
        clear hK K
        try simp only [Act.put, List.getElem_toArray, List.getElem_cons_succ, List.getElem_cons_zero, List.setIfInBounds_toArray, List.set_cons_zero, List.set_cons_succ]
        refine wpAnyH_take (i := 5) (oi := _) (v := ?v5n5) rfl (by kernel_rfl) (by kernel_rfl) (by kernel_rfl) (fun _ _ _ h => h) (Or.inl ⟨by rfl, ?hy5n5⟩) (by assumption) ?rest5n5
        case hy5n5 =>
          intro w' hSw
          go_simp
          try with_reducible rfl
        try simp only [Act.put, List.getElem_toArray, List.getElem_cons_succ, List.getElem_cons_zero, List.setIfInBounds_toArray, List.set_cons_zero, List.set_cons_succ]
        refine wpAnyH_take (i := 6) (oi := _) (v := ?v6n6) rfl (by kernel_rfl) (by kernel_rfl) (by kernel_rfl) (fun _ _ _ h => h) (Or.inl ⟨by rfl, ?hy6n6⟩) (by assumption) ?rest6n6
        case hy6n6 =>
          intro w' hSw
          go_simp
          try with_reducible rfl
        try simp only [Act.put, List.getElem_toArray, List.getElem_cons_succ, List.getElem_cons_zero, List.setIfInBounds_toArray, List.set_cons_zero, List.set_cons_succ]
        refine wpAnyH_take (i := 7) (oi := _) (v := ?v7n7) rfl (by kernel_rfl) (by kernel_rfl) (by kernel_rfl) (fun _ _ _ h => h) (Or.inl ⟨by rfl, ?hy7n7⟩) (by assumption) ?rest7n7
        case hy7n7 =>
          intro w' hSw
          go_simp
          try with_reducible rfl
        try simp only [Act.put, List.getElem_toArray, List.getElem_cons_succ, List.getElem_cons_zero, List.setIfInBounds_toArray, List.set_cons_zero, List.set_cons_succ]
        refine wpAnyH_take (i := 8) (oi := _) (v := ?v8n8) rfl (by kernel_rfl) (by kernel_rfl) (by kernel_rfl) (fun _ _ _ h => h) (Or.inl ⟨by rfl, ?hy8n8⟩) (by assumption) ?rest8n8
        case hy8n8 =>
          intro w' hSw
          go_simp
          try with_reducible rfl
        try simp only [Act.put, List.getElem_toArray, List.getElem_cons_succ, List.getElem_cons_zero, List.setIfInBounds_toArray, List.set_cons_zero, List.set_cons_succ]
        refine wpAnyH_take (i := 9) (oi := _) (v := ?v9n9) rfl (by kernel_rfl) (by kernel_rfl) (by kernel_rfl) (fun _ _ _ h => h) (Or.inl ⟨by rfl, ?hy9n9⟩) (by assumption) ?rest9n9
        case hy9n9 =>
          intro w' hSw
          go_simp
          try with_reducible rfl
        try simp only [Act.put, List.getElem_toArray, List.getElem_cons_succ, List.getElem_cons_zero, List.setIfInBounds_toArray, List.set_cons_zero, List.set_cons_succ]
        refine wpAnyH_take (i := 10) (oi := _) (v := undef) rfl (by kernel_rfl) (by kernel_rfl) (by kernel_rfl) (fun _ _ _ h => h) (Or.inr ⟨by rfl, rfl⟩) (by assumption) ?rest10n10
        try simp only [Act.put, List.getElem_toArray, List.getElem_cons_succ, List.getElem_cons_zero, List.setIfInBounds_toArray, List.set_cons_zero, List.set_cons_succ]
        refine wpAnyH_take (i := 11) (oi := _) (v := undef) rfl (by kernel_rfl) (by kernel_rfl) (by kernel_rfl) (fun _ _ _ h => h) (Or.inr ⟨by rfl, rfl⟩) (by assumption) ?rest11n11
        try simp only [Act.put, List.getElem_toArray, List.getElem_cons_succ, List.getElem_cons_zero, List.setIfInBounds_toArray, List.set_cons_zero, List.set_cons_succ]
        refine wpAnyH_take (i := 12) (oi := _) (v := undef) rfl (by kernel_rfl) (by kernel_rfl) (by kernel_rfl) (fun _ _ _ h => h) (Or.inr ⟨by rfl, rfl⟩) (by assumption) ?rest12n12
        try simp only [Act.put, List.getElem_toArray, List.getElem_cons_succ, List.getElem_cons_zero, List.setIfInBounds_toArray, List.set_cons_zero, List.set_cons_succ]
        refine wpAnyH_take (i := 13) (oi := _) (v := undef) rfl (by kernel_rfl) (by kernel_rfl) (by kernel_rfl) (fun _ _ _ h => h) (Or.inr ⟨by rfl, rfl⟩) (by assumption) ?rest13n13
        try simp only [Act.put, List.getElem_toArray, List.getElem_cons_succ, List.getElem_cons_zero, List.setIfInBounds_toArray, List.set_cons_zero, List.set_cons_succ]
        refine wpAnyH_take (i := 14) (oi := _) (v := undef) rfl (by kernel_rfl) (by kernel_rfl) (by kernel_rfl) (fun _ _ _ h => h) (Or.inr ⟨by rfl, rfl⟩) (by assumption) ?rest14n14
        try simp only [Act.put, List.getElem_toArray, List.getElem_cons_succ, List.getElem_cons_zero, List.setIfInBounds_toArray, List.set_cons_zero, List.set_cons_succ]
        refine wpAnyH_take (i := 15) (oi := _) (v := undef) rfl (by kernel_rfl) (by kernel_rfl) (by kernel_rfl) (fun _ _ _ h => h) (Or.inr ⟨by rfl, rfl⟩) (by assumption) ?rest15n15
        try simp only [Act.put, List.getElem_toArray, List.getElem_cons_succ, List.getElem_cons_zero, List.setIfInBounds_toArray, List.set_cons_zero, List.set_cons_succ]
        refine wpAnyH_take (i := 16) (oi := _) (v := undef) rfl (by kernel_rfl) (by kernel_rfl) (by kernel_rfl) (fun _ _ _ h => h) (Or.inr ⟨by rfl, rfl⟩) (by assumption) ?rest16n16
        try simp only [Act.put, List.getElem_toArray, List.getElem_cons_succ, List.getElem_cons_zero, List.setIfInBounds_toArray, List.set_cons_zero, List.set_cons_succ]
        refine wpAnyH_take (i := 17) (oi := _) (v := undef) rfl (by kernel_rfl) (by kernel_rfl) (by kernel_rfl) (fun _ _ _ h => h) (Or.inr ⟨by rfl, rfl⟩) (by assumption) ?rest17n17
        try simp only [Act.put, List.getElem_toArray, List.getElem_cons_succ, List.getElem_cons_zero, List.setIfInBounds_toArray, List.set_cons_zero, List.set_cons_succ]
        refine wpAnyH_take (i := 18) (oi := _) (v := undef) rfl (by kernel_rfl) (by kernel_rfl) (by kernel_rfl) (fun _ _ _ h => h) (Or.inr ⟨by rfl, rfl⟩) (by assumption) ?rest18n18
        try simp only [Act.put, List.getElem_toArray, List.getElem_cons_succ, List.getElem_cons_zero, List.setIfInBounds_toArray, List.set_cons_zero, List.set_cons_succ]
        refine wpAnyH_take (i := 19) (oi := _) (v := undef) rfl (by kernel_rfl) (by kernel_rfl) (by kernel_rfl) (fun _ _ _ h => h) (Or.inr ⟨by rfl, rfl⟩) (by assumption) ?rest19n19
        try simp only [Act.put, List.getElem_toArray, List.getElem_cons_succ, List.getElem_cons_zero, List.setIfInBounds_toArray, List.set_cons_zero, List.set_cons_succ]
        refine wpAnyH_take (i := 20) (oi := _) (v := undef) rfl (by kernel_rfl) (by kernel_rfl) (by kernel_rfl) (fun _ _ _ h => h) (Or.inr ⟨by rfl, rfl⟩) (by assumption) ?rest20n20
        try simp only [Act.put, List.getElem_toArray, List.getElem_cons_succ, List.getElem_cons_zero, List.setIfInBounds_toArray, List.set_cons_zero, List.set_cons_succ]
        refine wpAnyH_take (i := 21) (oi := _) (v := undef) rfl (by kernel_rfl) (by kernel_rfl) (by kernel_rfl) (fun _ _ _ h => h) (Or.inr ⟨by rfl, rfl⟩) (by assumption) ?rest21n21
        try simp only [Act.put, List.getElem_toArray, List.getElem_cons_succ, List.getElem_cons_zero, List.setIfInBounds_toArray, List.set_cons_zero, List.set_cons_succ]
        refine wpAnyH_take (i := 22) (oi := _) (v := ?v22n22) rfl (by kernel_rfl) (by kernel_rfl) (by kernel_rfl) (fun _ _ _ h => h) (Or.inl ⟨by rfl, ?hy22n22⟩) (by assumption) ?rest22n22
        case hy22n22 =>
          intro w' hSw
          go_simp
          try with_reducible rfl
        try simp only [Act.put, List.getElem_toArray, List.getElem_cons_succ, List.getElem_cons_zero, List.setIfInBounds_toArray, List.set_cons_zero, List.set_cons_succ]
        refine wpAnyH_take (i := 23) (oi := _) (v := ?v23n23) rfl (by kernel_rfl) (by kernel_rfl) (by kernel_rfl) (fun _ _ _ h => h) (Or.inl ⟨by rfl, ?hy23n23⟩) (by assumption) ?rest23n23
        case hy23n23 =>
          intro w' hSw
          go_simp
          try with_reducible rfl
        try simp only [Act.put, List.getElem_toArray, List.getElem_cons_succ, List.getElem_cons_zero, List.setIfInBounds_toArray, List.set_cons_zero, List.set_cons_succ]
        refine wpAnyH_done (by kernel_rfl) ?_ _
        have HB1 := Lib.hid (hbd.trans (hb1.mono hbd.size))
        clear hb1 hbd hHeld
        go_wp2_with fail
        go_roundw
        case rel => exact ⟨k + 1, by omega, by go_num, by show _ = _; rw [HT.out, HA.out, HC.out]; rfl, HU2, HB1⟩
        case measure => simp [intOf]; omega
      · obtain ⟨m, rfl⟩ : ∃ m, k = m + 1 := ⟨k - 1, by omega⟩
        obtain ⟨y, hy⟩ : ∃ y, l[m]? = some y := ⟨l[m]'(by have := HL.out.len; omega), List.getElem?_eq_getElem _⟩
        have HS := Lib.hid (upto_succ (f := En.p) hy hx)
        have hd0 : decide ((m : Int) + 1 > 0) = true := decide_eq_true (by omega)
        have hd : decide ((m : Int) + 1 < (n : Int)) = true := by simp; omega
        have p1 : (0 : Int) ≤ (m : Int) := by omega
        have p2 : (m : Int) < (n : Int) := by omega
        have p3 : (0 : Int) ≤ (m : Int) + 1 := by omega
        have p4 : (m : Int) + 1 < (n : Int) := by omega
        have q1 : (m : Int) + 1 - 1 = (m : Int) := by omega
        have q2 : ((m : Int) + 1).toNat = m + 1 := by omega
        have q3 : IntKind.i64.wrap ((m : Int) + 1 - 1) = (m : Int) := by rw [q1]; exact IntWalk.i64_in _ (by omega)
        have q4 : IntKind.i64.wrap (m : Int) = (m : Int) := IntWalk.i64_in _ (by omega)
        have q5 : IntKind.i64.wrap ((m : Int) + 1) = (m : Int) + 1 := IntWalk.i64_in _ (by omega)
        have HALL : Hid (∀ w', Below w.heap.size w w' → w'.rangeAt b (off + (m + 1) * 33) (enL x) ∧ w'.rangeAt b (off + m * 33) (enL y)) := fun w' hb => ⟨range_belowS (HL.out.at hx).2 hb hbB, range_belowS (HL.out.at hy).2 hb hbB⟩
        obtain ⟨c, hc⟩ : ∃ c, Op.bytesLess y.p.toList x.p.toList = c := ⟨_, rfl⟩
        have HP : Hid (pls y.p x.p = c) := hc
        clear hx hy hxm hk0
        go_wp2_with fail
        refine wp_region_held_drew (S := fun w' => w'.rangeAt b (off + (m + 1) * 33) (enL x) ∧ w'.rangeAt b (off + m * 33) (enL y)) (by kernel_rfl) (HALL.out _ hbd) (fun hHeld => ?_)
        refine wpAnyH_take (i := 0) (oi := _) (v := ?v0n24) rfl (by kernel_rfl) (by kernel_rfl) (by kernel_rfl) (fun _ _ _ h => h) (Or.inl ⟨by rfl, ?hy0n24⟩) (by assumption) ?rest0n24
        case hy0n24 =>
          intro w' hSw
          go_simp
          try with_reducible rfl
        try simp only [Act.put, List.getElem_toArray, List.getElem_cons_succ, List.getElem_cons_zero, List.setIfInBounds_toArray, List.set_cons_zero, List.set_cons_succ]
        refine wpAnyH_take (i := 1) (oi := _) (v := ?v1n25) rfl (by kernel_rfl) (by kernel_rfl) (by kernel_rfl) (fun _ _ _ h => h) (Or.inl ⟨by rfl, ?hy1n25⟩) (by assumption) ?rest1n25
        case hy1n25 =>
          intro w' hSw
          go_simp
          try with_reducible rfl
        try simp only [Act.put, List.getElem_toArray, List.getElem_cons_succ, List.getElem_cons_zero, List.setIfInBounds_toArray, List.set_cons_zero, List.set_cons_succ]
        refine wpAnyH_take (i := 2) (oi := _) (v := ?v2n26) rfl (by kernel_rfl) (by kernel_rfl) (by kernel_rfl) (fun _ _ _ h => h) (Or.inl ⟨by rfl, ?hy2n26⟩) (by assumption) ?rest2n26
        case hy2n26 =>
          intro w' hSw
          go_simp
          try with_reducible rfl
        try simp only [Act.put, List.getElem_toArray, List.getElem_cons_succ, List.getElem_cons_zero, List.setIfInBounds_toArray, List.set_cons_zero, List.set_cons_succ]
        refine' wpAnyH_take (i := 3) (oi := _) (v := _) rfl (by kernel_rfl) (by kernel_rfl) (by kernel_rfl) (fun _ _ _ h => h) (yieldsIf_load_mid (by rfl) _ _ rfl _ _ rfl _ _ ?hS3n27 Tryd.underlying70 rfl HIX.out) (by assumption) ?rest3n27
        case hS3n27 =>
          intro w' hSw
          exact hSw.1
        try simp only [Act.put, List.getElem_toArray, List.getElem_cons_succ, List.getElem_cons_zero, List.setIfInBounds_toArray, List.set_cons_zero, List.set_cons_succ]
        refine wpAnyH_ready (rs := [4]) (by kernel_rfl) (by simp) (AllReadyH.cons (o := _) rfl (fun K hK => ?_) AllReadyH.nil)
        go_simp
        with_reducible refine (HF.out _).mono ?_
        rintro e w1 ⟨rfl, hb1⟩
        go_wp2_with fail
        refine hK.out _ _ (HALL.out _ (hbd.trans (hb1.mono hbd.size))) (fun hHeld => ?_)
        clear hK K
        try simp only [Act.put, List.getElem_toArray, List.getElem_cons_succ, List.getElem_cons_zero, List.setIfInBounds_toArray, List.set_cons_zero, List.set_cons_succ]
        refine wpAnyH_take (i := 5) (oi := _) (v := ?v5n28) rfl (by kernel_rfl) (by kernel_rfl) (by kernel_rfl) (fun _ _ _ h => h) (Or.inl ⟨by rfl, ?hy5n28⟩) (by assumption) ?rest5n28
        case hy5n28 =>
          intro w' hSw
          go_simp
          try with_reducible rfl
        try simp only [Act.put, List.getElem_toArray, List.getElem_cons_succ, List.getElem_cons_zero, List.setIfInBounds_toArray, List.set_cons_zero, List.set_cons_succ]
        refine wpAnyH_take (i := 6) (oi := _) (v := ?v6n29) rfl (by kernel_rfl) (by kernel_rfl) (by kernel_rfl) (fun _ _ _ h => h) (Or.inl ⟨by rfl, ?hy6n29⟩) (by assumption) ?rest6n29
        case hy6n29 =>
          intro w' hSw
          go_simp
          try with_reducible rfl
        try simp only [Act.put, List.getElem_toArray, List.getElem_cons_succ, List.getElem_cons_zero, List.setIfInBounds_toArray, List.set_cons_zero, List.set_cons_succ]
        refine wpAnyH_take (i := 7) (oi := _) (v := ?v7n30) rfl (by kernel_rfl) (by kernel_rfl) (by kernel_rfl) (fun _ _ _ h => h) (Or.inl ⟨by rfl, ?hy7n30⟩) (by assumption) ?rest7n30
        case hy7n30 =>
          intro w' hSw
          go_simp
          try with_reducible rfl
        try simp only [Act.put, List.getElem_toArray, List.getElem_cons_succ, List.getElem_cons_zero, List.setIfInBounds_toArray, List.set_cons_zero, List.set_cons_succ]
        refine wpAnyH_take (i := 8) (oi := _) (v := ?v8n31) rfl (by kernel_rfl) (by kernel_rfl) (by kernel_rfl) (fun _ _ _ h => h) (Or.inl ⟨by rfl, ?hy8n31⟩) (by assumption) ?rest8n31
        case hy8n31 =>
          intro w' hSw
          go_simp
          try with_reducible rfl
        try simp only [Act.put, List.getElem_toArray, List.getElem_cons_succ, List.getElem_cons_zero, List.setIfInBounds_toArray, List.set_cons_zero, List.set_cons_succ]
        refine wpAnyH_take (i := 9) (oi := _) (v := ?v9n32) rfl (by kernel_rfl) (by kernel_rfl) (by kernel_rfl) (fun _ _ _ h => h) (Or.inl ⟨by rfl, ?hy9n32⟩) (by assumption) ?rest9n32
        case hy9n32 =>
          intro w' hSw
          go_simp
          try with_reducible rfl
        try simp only [Act.put, List.getElem_toArray, List.getElem_cons_succ, List.getElem_cons_zero, List.setIfInBounds_toArray, List.set_cons_zero, List.set_cons_succ]
        refine wpAnyH_take (i := 10) (oi := _) (v := ?v10n33) rfl (by kernel_rfl) (by kernel_rfl) (by kernel_rfl) (fun _ _ _ h => h) (Or.inl ⟨by rfl, ?hy10n33⟩) (by assumption) ?rest10n33
        case hy10n33 =>
          intro w' hSw
          go_simp
          try with_reducible rfl
        try simp only [Act.put, List.getElem_toArray, List.getElem_cons_succ, List.getElem_cons_zero, List.setIfInBounds_toArray, List.set_cons_zero, List.set_cons_succ]
        refine wpAnyH_take (i := 11) (oi := _) (v := ?v11n34) rfl (by kernel_rfl) (by kernel_rfl) (by kernel_rfl) (fun _ _ _ h => h) (Or.inl ⟨by rfl, ?hy11n34⟩) (by assumption) ?rest11n34
        case hy11n34 =>
          intro w' hSw
          go_simp
          try with_reducible rfl
        try simp only [Act.put, List.getElem_toArray, List.getElem_cons_succ, List.getElem_cons_zero, List.setIfInBounds_toArray, List.set_cons_zero, List.set_cons_succ]
        refine wpAnyH_take (i := 12) (oi := _) (v := ?v12n35) rfl (by kernel_rfl) (by kernel_rfl) (by kernel_rfl) (fun _ _ _ h => h) (Or.inl ⟨by rfl, ?hy12n35⟩) (by assumption) ?rest12n35
        case hy12n35 =>
          intro w' hSw
          go_simp
          try with_reducible rfl
        try simp only [Act.put, List.getElem_toArray, List.getElem_cons_succ, List.getElem_cons_zero, List.setIfInBounds_toArray, List.set_cons_zero, List.set_cons_succ]
        refine wpAnyH_take (i := 13) (oi := _) (v := ?v13n36) rfl (by kernel_rfl) (by kernel_rfl) (by kernel_rfl) (fun _ _ _ h => h) (Or.inl ⟨by rfl, ?hy13n36⟩) (by assumption) ?rest13n36
        case hy13n36 =>
          intro w' hSw
          go_simp
          try with_reducible rfl
        try simp only [Act.put, List.getElem_toArray, List.getElem_cons_succ, List.getElem_cons_zero, List.setIfInBounds_toArray, List.set_cons_zero, List.set_cons_succ]
        refine wpAnyH_take (i := 14) (oi := _) (v := ?v14n37) rfl (by kernel_rfl) (by kernel_rfl) (by kernel_rfl) (fun _ _ _ h => h) (Or.inl ⟨by rfl, ?hy14n37⟩) (by assumption) ?rest14n37
        case hy14n37 =>
          intro w' hSw
          go_simp
          try with_reducible rfl
        try simp only [Act.put, List.getElem_toArray, List.getElem_cons_succ, List.getElem_cons_zero, List.setIfInBounds_toArray, List.set_cons_zero, List.set_cons_succ]
        refine wpAnyH_take (i := 15) (oi := _) (v := ?v15n38) rfl (by kernel_rfl) (by kernel_rfl) (by kernel_rfl) (fun _ _ _ h => h) (Or.inl ⟨by rfl, ?hy15n38⟩) (by assumption) ?rest15n38
        case hy15n38 =>
          intro w' hSw
          have h1 := rngE_p hSw.2
          go_simp
          try with_reducible rfl
        try simp only [Act.put, List.getElem_toArray, List.getElem_cons_succ, List.getElem_cons_zero, List.setIfInBounds_toArray, List.set_cons_zero, List.set_cons_succ]
        refine wpAnyH_take (i := 16) (oi := _) (v := ?v16n39) rfl (by kernel_rfl) (by kernel_rfl) (by kernel_rfl) (fun _ _ _ h => h) (Or.inl ⟨by rfl, ?hy16n39⟩) (by assumption) ?rest16n39
        case hy16n39 =>
          intro w' hSw
          go_simp
          try with_reducible rfl
        try simp only [Act.put, List.getElem_toArray, List.getElem_cons_succ, List.getElem_cons_zero, List.setIfInBounds_toArray, List.set_cons_zero, List.set_cons_succ]
        refine wpAnyH_take (i := 17) (oi := _) (v := ?v17n40) rfl (by kernel_rfl) (by kernel_rfl) (by kernel_rfl) (fun _ _ _ h => h) (Or.inl ⟨by rfl, ?hy17n40⟩) (by assumption) ?rest17n40
        case hy17n40 =>
          intro w' hSw
          go_simp
          try with_reducible rfl
        try simp only [Act.put, List.getElem_toArray, List.getElem_cons_succ, List.getElem_cons_zero, List.setIfInBounds_toArray, List.set_cons_zero, List.set_cons_succ]
        refine wpAnyH_take (i := 18) (oi := _) (v := ?v18n41) rfl (by kernel_rfl) (by kernel_rfl) (by kernel_rfl) (fun _ _ _ h => h) (Or.inl ⟨by rfl, ?hy18n41⟩) (by assumption) ?rest18n41
        case hy18n41 =>
          intro w' hSw
          go_simp
          try with_reducible rfl
        try simp only [Act.put, List.getElem_toArray, List.getElem_cons_succ, List.getElem_cons_zero, List.setIfInBounds_toArray, List.set_cons_zero, List.set_cons_succ]
        refine wpAnyH_take (i := 19) (oi := _) (v := ?v19n42) rfl (by kernel_rfl) (by kernel_rfl) (by kernel_rfl) (fun _ _ _ h => h) (Or.inl ⟨by rfl, ?hy19n42⟩) (by assumption) ?rest19n42
        case hy19n42 =>
          intro w' hSw
          go_simp
          try with_reducible rfl
        try simp only [Act.put, List.getElem_toArray, List.getElem_cons_succ, List.getElem_cons_zero, List.setIfInBounds_toArray, List.set_cons_zero, List.set_cons_succ]
        refine wpAnyH_take (i := 20) (oi := _) (v := ?v20n43) rfl (by kernel_rfl) (by kernel_rfl) (by kernel_rfl) (fun _ _ _ h => h) (Or.inl ⟨by rfl, ?hy20n43⟩) (by assumption) ?rest20n43
        case hy20n43 =>
          intro w' hSw
          have h1 := rngE_p hSw.1
          go_simp
          try with_reducible rfl
        try simp only [Act.put, List.getElem_toArray, List.getElem_cons_succ, List.getElem_cons_zero, List.setIfInBounds_toArray, List.set_cons_zero, List.set_cons_succ]
        refine wpAnyH_take (i := 21) (oi := _) (v := ?v21n44) rfl (by kernel_rfl) (by kernel_rfl) (by kernel_rfl) (fun _ _ _ h => h) (Or.inl ⟨by rfl, ?hy21n44⟩) (by assumption) ?rest21n44
        case hy21n44 =>
          intro w' hSw
          go_simp
          try with_reducible rfl
        try simp only [Act.put, List.getElem_toArray, List.getElem_cons_succ, List.getElem_cons_zero, List.setIfInBounds_toArray, List.set_cons_zero, List.set_cons_succ]
        refine wpAnyH_take (i := 22) (oi := _) (v := ?v22n45) rfl (by kernel_rfl) (by kernel_rfl) (by kernel_rfl) (fun _ _ _ h => h) (Or.inl ⟨by rfl, ?hy22n45⟩) (by assumption) ?rest22n45
        case hy22n45 =>
          intro w' hSw
          go_simp
          try with_reducible rfl
        try simp only [Act.put, List.getElem_toArray, List.getElem_cons_succ, List.getElem_cons_zero, List.setIfInBounds_toArray, List.set_cons_zero, List.set_cons_succ]
        refine wpAnyH_take (i := 23) (oi := _) (v := ?v23n46) rfl (by kernel_rfl) (by kernel_rfl) (by kernel_rfl) (fun _ _ _ h => h) (Or.inl ⟨by rfl, ?hy23n46⟩) (by assumption) ?rest23n46
        case hy23n46 =>
          intro w' hSw
          go_simp
          try with_reducible rfl
        try simp only [Act.put, List.getElem_toArray, List.getElem_cons_succ, List.getElem_cons_zero, List.setIfInBounds_toArray, List.set_cons_zero, List.set_cons_succ]
        refine wpAnyH_done (by kernel_rfl) ?_ _
        have HB1 := Lib.hid (hbd.trans (hb1.mono hbd.size))
        clear hb1 hbd hHeld hc
        have HM2 : Hid (upto En.p l (m + 1) = c) := by
          have h1 := HU.out
          show _ = _; rw [HS.out, show upto En.p l m = true from h1, HP.out]; rfl
        cases c
        · have HZ : Hid (vldE l = false) := by show _ = _; rw [HV.out, show ascB En.p l = false from upto_false HM2.out (by have := HL.out.len; omega), Bool.and_false]
          go_wp2_with fail
          go_ret
          exact ⟨ret_boolP HZ.out.symm, HB1.out⟩
        · go_wp2_with fail
          go_roundw
          case rel => exact ⟨m + 1 + 1, by omega, by go_num, by show _ = _; rw [HT.out, HA.out, HC.out]; rfl, HM2, HB1⟩
          case measure => simp [intOf]; omega
    · have hd : decide ((k : Int) < (n : Int)) = true := by simp; omega
      have p1 : (0 : Int) ≤ (k : Int) := by omega
      have p2 : (k : Int) < (n : Int) := by omega
      have q1 : IntKind.i64.wrap (k : Int) = (k : Int) := IntWalk.i64_in _ (by omega)
      have HALL : Hid (∀ w', Below w.heap.size w w' → w'.rangeAt b (off + k * 33) (enL x) ∧ True) := fun w' hb => ⟨range_belowS (HL.out.at hx).2 hb hbB, trivial⟩
      clear hx hxm
      go_wp2_with fail
      refine wp_region_held_drew (S := fun w' => w'.rangeAt b (off + k * 33) (enL x) ∧ True) (by kernel_rfl) (HALL.out _ hbd) (fun hHeld => ?_)
      refine wpAnyH_take (i := 0) (oi := _) (v := ?v0n47) rfl (by kernel_rfl) (by kernel_rfl) (by kernel_rfl) (fun _ _ _ h => h) (Or.inl ⟨by rfl, ?hy0n47⟩) (by assumption) ?rest0n47
      case hy0n47 =>
        intro w' hSw
        go_simp
        try with_reducible rfl
      try simp only [Act.put, List.getElem_toArray, List.getElem_cons_succ, List.getElem_cons_zero, List.setIfInBounds_toArray, List.set_cons_zero, List.set_cons_succ]
      refine wpAnyH_take (i := 1) (oi := _) (v := ?v1n48) rfl (by kernel_rfl) (by kernel_rfl) (by kernel_rfl) (fun _ _ _ h => h) (Or.inl ⟨by rfl, ?hy1n48⟩) (by assumption) ?rest1n48
      case hy1n48 =>
        intro w' hSw
        go_simp
        try with_reducible rfl
      try simp only [Act.put, List.getElem_toArray, List.getElem_cons_succ, List.getElem_cons_zero, List.setIfInBounds_toArray, List.set_cons_zero, List.set_cons_succ]
      refine wpAnyH_take (i := 2) (oi := _) (v := ?v2n49) rfl (by kernel_rfl) (by kernel_rfl) (by kernel_rfl) (fun _ _ _ h => h) (Or.inl ⟨by rfl, ?hy2n49⟩) (by assumption) ?rest2n49
      case hy2n49 =>
        intro w' hSw
        go_simp
        try with_reducible rfl
      try simp only [Act.put, List.getElem_toArray, List.getElem_cons_succ, List.getElem_cons_zero, List.setIfInBounds_toArray, List.set_cons_zero, List.set_cons_succ]
      refine' wpAnyH_take (i := 3) (oi := _) (v := _) rfl (by kernel_rfl) (by kernel_rfl) (by kernel_rfl) (fun _ _ _ h => h) (yieldsIf_load_mid (by rfl) _ _ rfl _ _ rfl _ _ ?hS3n50 Tryd.underlying70 rfl HIX.out) (by assumption) ?rest3n50
      case hS3n50 =>
        intro w' hSw
        exact hSw.1
      try simp only [Act.put, List.getElem_toArray, List.getElem_cons_succ, List.getElem_cons_zero, List.setIfInBounds_toArray, List.set_cons_zero, List.set_cons_succ]
      refine wpAnyH_ready (rs := [4]) (by kernel_rfl) (by simp) (AllReadyH.cons (o := _) rfl (fun K hK => ?_) AllReadyH.nil)
      go_simp
      with_reducible refine (HF.out _).mono ?_
      rintro e w1 ⟨rfl, hb1⟩
      go_wp2_with fail
      refine hK.out _ _ (HALL.out _ (hbd.trans (hb1.mono hbd.size))) (fun hHeld => ?_)
      clear hK K
      try simp only [Act.put, List.getElem_toArray, List.getElem_cons_succ, List.getElem_cons_zero, List.setIfInBounds_toArray, List.set_cons_zero, List.set_cons_succ]
      refine wpAnyH_take (i := 5) (oi := _) (v := ?v5n51) rfl (by kernel_rfl) (by kernel_rfl) (by kernel_rfl) (fun _ _ _ h => h) (Or.inl ⟨by rfl, ?hy5n51⟩) (by assumption) ?rest5n51
      case hy5n51 =>
        intro w' hSw
        go_simp
        try with_reducible rfl
      try simp only [Act.put, List.getElem_toArray, List.getElem_cons_succ, List.getElem_cons_zero, List.setIfInBounds_toArray, List.set_cons_zero, List.set_cons_succ]
      refine wpAnyH_take (i := 6) (oi := _) (v := ?v6n52) rfl (by kernel_rfl) (by kernel_rfl) (by kernel_rfl) (fun _ _ _ h => h) (Or.inl ⟨by rfl, ?hy6n52⟩) (by assumption) ?rest6n52
      case hy6n52 =>
        intro w' hSw
        go_simp
        try with_reducible rfl
      try simp only [Act.put, List.getElem_toArray, List.getElem_cons_succ, List.getElem_cons_zero, List.setIfInBounds_toArray, List.set_cons_zero, List.set_cons_succ]
      refine wpAnyH_take (i := 7) (oi := _) (v := undef) rfl (by kernel_rfl) (by kernel_rfl) (by kernel_rfl) (fun _ _ _ h => h) (Or.inr ⟨by rfl, rfl⟩) (by assumption) ?rest7n53
      try simp only [Act.put, List.getElem_toArray, List.getElem_cons_succ, List.getElem_cons_zero, List.setIfInBounds_toArray, List.set_cons_zero, List.set_cons_succ]
      refine wpAnyH_take (i := 8) (oi := _) (v := undef) rfl (by kernel_rfl) (by kernel_rfl) (by kernel_rfl) (fun _ _ _ h => h) (Or.inr ⟨by rfl, rfl⟩) (by assumption) ?rest8n54
      try simp only [Act.put, List.getElem_toArray, List.getElem_cons_succ, List.getElem_cons_zero, List.setIfInBounds_toArray, List.set_cons_zero, List.set_cons_succ]
      refine wpAnyH_take (i := 9) (oi := _) (v := undef) rfl (by kernel_rfl) (by kernel_rfl) (by kernel_rfl) (fun _ _ _ h => h) (Or.inr ⟨by rfl, rfl⟩) (by assumption) ?rest9n55
      try simp only [Act.put, List.getElem_toArray, List.getElem_cons_succ, List.getElem_cons_zero, List.setIfInBounds_toArray, List.set_cons_zero, List.set_cons_succ]
      refine wpAnyH_take (i := 10) (oi := _) (v := undef) rfl (by kernel_rfl) (by kernel_rfl) (by kernel_rfl) (fun _ _ _ h => h) (Or.inr ⟨by rfl, rfl⟩) (by assumption) ?rest10n56
      try simp only [Act.put, List.getElem_toArray, List.getElem_cons_succ, List.getElem_cons_zero, List.setIfInBounds_toArray, List.set_cons_zero, List.set_cons_succ]
      refine wpAnyH_take (i := 11) (oi := _) (v := undef) rfl (by kernel_rfl) (by kernel_rfl) (by kernel_rfl) (fun _ _ _ h => h) (Or.inr ⟨by rfl, rfl⟩) (by assumption) ?rest11n57
      try simp only [Act.put, List.getElem_toArray, List.getElem_cons_succ, List.getElem_cons_zero, List.setIfInBounds_toArray, List.set_cons_zero, List.set_cons_succ]
      refine wpAnyH_take (i := 12) (oi := _) (v := undef) rfl (by kernel_rfl) (by kernel_rfl) (by kernel_rfl) (fun _ _ _ h => h) (Or.inr ⟨by rfl, rfl⟩) (by assumption) ?rest12n58
      try simp only [Act.put, List.getElem_toArray, List.getElem_cons_succ, List.getElem_cons_zero, List.setIfInBounds_toArray, List.set_cons_zero, List.set_cons_succ]
      refine wpAnyH_take (i := 13) (oi := _) (v := undef) rfl (by kernel_rfl) (by kernel_rfl) (by kernel_rfl) (fun _ _ _ h => h) (Or.inr ⟨by rfl, rfl⟩) (by assumption) ?rest13n59
      try simp only [Act.put, List.getElem_toArray, List.getElem_cons_succ, List.getElem_cons_zero, List.setIfInBounds_toArray, List.set_cons_zero, List.set_cons_succ]
      refine wpAnyH_take (i := 14) (oi := _) (v := undef) rfl (by kernel_rfl) (by kernel_rfl) (by kernel_rfl) (fun _ _ _ h => h) (Or.inr ⟨by rfl, rfl⟩) (by assumption) ?rest14n60
      try simp only [Act.put, List.getElem_toArray, List.getElem_cons_succ, List.getElem_cons_zero, List.setIfInBounds_toArray, List.set_cons_zero, List.set_cons_succ]
      refine wpAnyH_take (i := 15) (oi := _) (v := undef) rfl (by kernel_rfl) (by kernel_rfl) (by kernel_rfl) (fun _ _ _ h => h) (Or.inr ⟨by rfl, rfl⟩) (by assumption) ?rest15n61
      try simp only [Act.put, List.getElem_toArray, List.getElem_cons_succ, List.getElem_cons_zero, List.setIfInBounds_toArray, List.set_cons_zero, List.set_cons_succ]
      refine wpAnyH_take (i := 16) (oi := _) (v := undef) rfl (by kernel_rfl) (by kernel_rfl) (by kernel_rfl) (fun _ _ _ h => h) (Or.inr ⟨by rfl, rfl⟩) (by assumption) ?rest16n62
      try simp only [Act.put, List.getElem_toArray, List.getElem_cons_succ, List.getElem_cons_zero, List.setIfInBounds_toArray, List.set_cons_zero, List.set_cons_succ]
      refine wpAnyH_take (i := 17) (oi := _) (v := undef) rfl (by kernel_rfl) (by kernel_rfl) (by kernel_rfl) (fun _ _ _ h => h) (Or.inr ⟨by rfl, rfl⟩) (by assumption) ?rest17n63
      try simp only [Act.put, List.getElem_toArray, List.getElem_cons_succ, List.getElem_cons_zero, List.setIfInBounds_toArray, List.set_cons_zero, List.set_cons_succ]
      refine wpAnyH_take (i := 18) (oi := _) (v := undef) rfl (by kernel_rfl) (by kernel_rfl) (by kernel_rfl) (fun _ _ _ h => h) (Or.inr ⟨by rfl, rfl⟩) (by assumption) ?rest18n64
      try simp only [Act.put, List.getElem_toArray, List.getElem_cons_succ, List.getElem_cons_zero, List.setIfInBounds_toArray, List.set_cons_zero, List.set_cons_succ]
      refine wpAnyH_take (i := 19) (oi := _) (v := undef) rfl (by kernel_rfl) (by kernel_rfl) (by kernel_rfl) (fun _ _ _ h => h) (Or.inr ⟨by rfl, rfl⟩) (by assumption) ?rest19n65
      try simp only [Act.put, List.getElem_toArray, List.getElem_cons_succ, List.getElem_cons_zero, List.setIfInBounds_toArray, List.set_cons_zero, List.set_cons_succ]
      refine wpAnyH_take (i := 20) (oi := _) (v := undef) rfl (by kernel_rfl) (by kernel_rfl) (by kernel_rfl) (fun _ _ _ h => h) (Or.inr ⟨by rfl, rfl⟩) (by assumption) ?rest20n66
      try simp only [Act.put, List.getElem_toArray, List.getElem_cons_succ, List.getElem_cons_zero, List.setIfInBounds_toArray, List.set_cons_zero, List.set_cons_succ]
      refine wpAnyH_take (i := 21) (oi := _) (v := undef) rfl (by kernel_rfl) (by kernel_rfl) (by kernel_rfl) (fun _ _ _ h => h) (Or.inr ⟨by rfl, rfl⟩) (by assumption) ?rest21n67
      try simp only [Act.put, List.getElem_toArray, List.getElem_cons_succ, List.getElem_cons_zero, List.setIfInBounds_toArray, List.set_cons_zero, List.set_cons_succ]
      refine wpAnyH_take (i := 22) (oi := _) (v := undef) rfl (by kernel_rfl) (by kernel_rfl) (by kernel_rfl) (fun _ _ _ h => h) (Or.inr ⟨by rfl, rfl⟩) (by assumption) ?rest22n68
      try simp only [Act.put, List.getElem_toArray, List.getElem_cons_succ, List.getElem_cons_zero, List.setIfInBounds_toArray, List.set_cons_zero, List.set_cons_succ]
      refine wpAnyH_take (i := 23) (oi := _) (v := ?v23n69) rfl (by kernel_rfl) (by kernel_rfl) (by kernel_rfl) (fun _ _ _ h => h) (Or.inl ⟨by rfl, ?hy23n69⟩) (by assumption) ?rest23n69
      case hy23n69 =>
        intro w' hSw
        go_simp
        try with_reducible rfl
      try simp only [Act.put, List.getElem_toArray, List.getElem_cons_succ, List.getElem_cons_zero, List.setIfInBounds_toArray, List.set_cons_zero, List.set_cons_succ]
      refine wpAnyH_done (by kernel_rfl) ?_ _
      have HB1 := Lib.hid (hbd.trans (hb1.mono hbd.size))
      clear hb1 hbd hHeld
      go_wp2_with fail
      go_ret
      exact ⟨ret_boolP (HM.out HC.out).symm, HB1.out⟩
  · obtain rfl : k = n := by omega
    have hd : decide ((k : Int) < (k : Int)) = false := by simp
    have HZ : Hid (vldE l = true) := by
      show _ = _
      have h1 := HA.out
      rw [List.take_of_length_le (by rw [HL.out.len]; exact Nat.le_refl _)] at h1
      rw [HV.out, h1]
      show upto En.p l (l.length - 1) = true
      rw [HL.out.len]; exact HU.out
    go_wp2_with fail
    go_ret
    exact ⟨ret_boolP HZ.out.symm, hbe.out⟩
end Go.Proofs.YtkookkhlgllneaaDoor

namespace Go.Proofs.YtkookkhlgllneaaDoor
open Go.RowKit

theorem results_row_tmpS {P : Program} {fn : Func} {p u : Tmp} {ty : TypeId} (h : fn.results = #[.cell p ty, .tmp u]) (tmps : Array Value) (w : World) (g : Nat) (t : TypeId) (cs : Array Value) (fr : Nat × Nat) (d : TypeDesc)
    (hp : tmps.getD p undef = .pointer (some ⟨g, 0, none⟩)) (hg : w.heap[g]? = some (.cells cs t fr))
    (hu : P.underlying ty = some d) (hd : (match d with | .struct _ | .array _ _ => true | _ => false) = true) (hi : (P.info? ty).map (·.size) = some cs.size) :
    (results fn tmps).run P w = .ok (.tuple #[.agg cs, tmps.getD u undef]) w := by
  have hp' : tmps[p]?.getD undef = .pointer (some ⟨g, 0, none⟩) := by simpa using hp
  simp [results, h, hp', asAddr, run_loadVar_row w g t ty cs fr d hg hu hd hi]
theorem find_take_none {α : Type} {f : α → ByteArray} {l : List α} {p : ByteArray} {k : Nat} {x : α} (h : (l.take k).find? (fun x => decide (f x = p)) = none) (hx : l[k]? = some x) (hn : f x ≠ p) : (l.take (k + 1)).find? (fun x => decide (f x = p)) = none := by
  rw [List.take_add_one, hx, List.find?_append, h]; simp [hn]
theorem find_take_some {α : Type} {f : α → ByteArray} {l : List α} {p : ByteArray} {k : Nat} {x : α} (h : (l.take k).find? (fun x => decide (f x = p)) = none) (hx : l[k]? = some x) (hn : f x = p) : l.find? (fun x => decide (f x = p)) = some x := by
  have hl := (List.getElem?_eq_some_iff.1 hx).1
  have e : l = l.take k ++ x :: l.drop (k + 1) := by
    rw [← (List.getElem?_eq_some_iff.1 hx).2, ← List.drop_eq_getElem_cons hl, List.take_append_drop]
  rw [e, List.find?_append, h]; simp [hn]
/-- what find, Lookup leave -/
def FindRes (w : World) (r : Option Cg) (e : Ending) (w' : World) : Prop := match r with
  | none => e = .returned (.tuple #[.agg (cgL ⟨⟨#[]⟩, zed, zed⟩).toArray, .bool false]) ∧ Below w.heap.size w w'
  | some x => e = .returned (.tuple #[.agg (cgL x).toArray, .bool true]) ∧ Below w.heap.size w w'
def LookRes (w : World) (r : Option En) (e : Ending) (w' : World) : Prop := match r with
  | none => e = .returned (.tuple #[.agg (zed.map (Value.int .u8)).toArray, .bool false]) ∧ Below w.heap.size w w'
  | some x => e = .returned (.tuple #[.agg (x.d.map (Value.int .u8)).toArray, .bool true]) ∧ Below w.heap.size w w'
theorem zeroCg_ok : OkC ⟨⟨#[]⟩, zed, zed⟩ := ⟨D32.zed, D32.zed⟩
theorem dgA_one (d : List Int) : ((d.map (Value.int .u8)).toArray).all (·.oneCell') = true := Array.all_eq_true_iff_forall_mem.2 (by simp [Value.oneCell'])
set_option maxRecDepth 100000 in
set_option maxHeartbeats 1000000 in
theorem rlook_any (sp : Option Addr) (n cap : Nat) (l : List En) (p : ByteArray) (w : World) (hl : EnsIn w w.heap.size sp n cap l) (hn : n ≤ 1000000) :
    Calls Tryd.prog 15 #[.slice sp n cap, .string p] w (LookRes w (fe l p)) := by
  have HL := Lib.hid hl; clear hl
  have HI0 : Hid ((Tryd.prog.info? 28).map (·.size) = some (zed.map (Value.int .u8)).toArray.size) := by show _ = _; rw [List.size_toArray]; exact info_d D32.zed
  have HI0s : Hid (32 = (zed.map (Value.int .u8)).toArray.size) := by show _ = _; rfl
  go_enter Tryd.func15, Tryd.ntmps15
  go_wp2_with fail
  generalize hw1 : World.alloc w _ = w1
  have hr1 : w1.heap[w.heap.size]? = some (.cells (Array.replicate 32 (Value.int .u8 0)) 28 (0, 0)) := by rw [← hw1]; exact heap_alloc_new _ _
  have hb1 : Below w.heap.size w w1 := by rw [← hw1]; exact (Below.refl _ _).alloc (Nat.le_refl _) _
  have HR1 := Lib.hid hr1; have HB1 := Lib.hid hb1
  clear hw1 hr1 hb1
  go_loop [6] (fun i => ∃ k : Nat, k ≤ n ∧ i = .int .i64 k ∧ Hid ((l.take k).find? (fun x => decide (x.p = p)) = none)) (fun i => n - (intOf i).toNat)
  case atStart => exact ⟨0, Nat.zero_le _, rfl, rfl⟩
  case round =>
  obtain ⟨k, hk, rfl, HA⟩ := hrel
  by_cases hlt : k < n
  · have hd : decide ((k : Int) < (n : Int)) = true := by simp; omega
    obtain ⟨x, hx⟩ : ∃ x, l[k]? = some x := ⟨l[k]'(by have := HL.out.len; omega), List.getElem?_eq_getElem _⟩
    obtain ⟨b, off, rfl, hbB, hcap, -⟩ := HL.out.cells (by omega)
    have hxr := range_belowS (HL.out.at hx).2 HB1.out hbB
    have hxp := rngE_p hxr
    have HXR := Lib.hid hxr
    have HOX := Lib.hid (HL.out.ok x (List.mem_of_getElem? hx))
    have HI1 : Hid ((Tryd.prog.info? 28).map (·.size) = some (x.d.map (Value.int .u8)).toArray.size) := by show _ = _; rw [List.size_toArray]; exact info_d HOX.out
    have HI1s : Hid (32 = (x.d.map (Value.int .u8)).toArray.size) := by show _ = _; rw [List.size_toArray]; simpa using (show 32 = x.d.length from HOX.out.1.symm)
    have p1 : (0 : Int) ≤ (k : Int) := by omega
    have p2 : (k : Int) < (n : Int) := by omega
    by_cases hxe : x.p = p
    · have HF : Hid (fe l p = some x) := find_take_some HA.out hx hxe
      have hte : (x.p.toList == p.toList) = true := by rw [hxe]; simp
      clear hx hxe hxr
      go_wp2_with (first
        | (refine wpList_load_mid rfl 28 _ rfl b (off + k * 33 + 1) rfl _ _ (rngE_d HXR.out) Tryd.underlying28 rfl (info_d HOX.out) ?_)
        | (refine wpList_store_row rfl 28 _ _ rfl w.heap.size _ rfl rfl 28 _ HR1.out HI1.out ((rfl : ((Array.replicate 32 (Value.int .u8 0))).size = 32).trans HI1s.out) (dgA_one x.d) ?_; have hr2 := setRow_heap _ _ _ (x.d.map (Value.int .u8)).toArray _ _ HR1.out; have hb2 := below_setRow HB1.out (Nat.le_refl w.heap.size) (x.d.map (Value.int .u8)).toArray; generalize World.setRow _ _ _ = w2 at hr2 hb2 ⊢; have HR2 := Lib.hid hr2; have HB2 := Lib.hid hb2; clear hr2 hb2))
      refine bodyPost_ret (results_row_tmpS (P := Tryd.prog) rfl _ _ w.heap.size 28 _ (0, 0) _ rfl HR2.out Tryd.underlying28 rfl HI1.out) rfl ?_
      rw [HF.out]
      exact ⟨rfl, HB2.out⟩
    · have HF := Lib.hid (find_take_none HA.out hx hxe)
      have hte : (x.p.toList == p.toList) = false := by rw [beq_eq_false_iff_ne]; exact fun e => hxe (toList_inj e)
      clear hx hxe hxr
      go_wp2_with fail
      go_round
      case rel => exact ⟨k + 1, by omega, by go_num, HF⟩
      case measure => simp [intOf]; omega
  · obtain rfl : k = n := by omega
    have hd : decide ((k : Int) < (k : Int)) = false := by simp
    have HF : Hid (fe l p = none) := by have := HA.out; rw [List.take_of_length_le (by rw [HL.out.len]; exact Nat.le_refl _)] at this; exact this
    go_wp2_with (refine wpList_store_row rfl 28 _ _ rfl w.heap.size (zed.map (Value.int .u8)).toArray rfl (by rfl) 28 _ HR1.out HI0.out ((rfl : ((Array.replicate 32 (Value.int .u8 0))).size = 32).trans HI0s.out) (dgA_one _) ?_; have hr2 := setRow_heap _ _ _ (zed.map (Value.int .u8)).toArray _ _ HR1.out; have hb2 := below_setRow HB1.out (Nat.le_refl w.heap.size) (zed.map (Value.int .u8)).toArray; generalize World.setRow _ _ _ = w2 at hr2 hb2 ⊢; have HR2 := Lib.hid hr2; have HB2 := Lib.hid hb2; clear hr2 hb2)
    refine bodyPost_ret (results_row_tmpS (P := Tryd.prog) rfl _ _ w.heap.size 28 _ (0, 0) _ rfl HR2.out Tryd.underlying28 rfl HI0.out) rfl ?_
    rw [HF.out]
    exact ⟨rfl, HB2.out⟩
end Go.Proofs.YtkookkhlgllneaaDoor
