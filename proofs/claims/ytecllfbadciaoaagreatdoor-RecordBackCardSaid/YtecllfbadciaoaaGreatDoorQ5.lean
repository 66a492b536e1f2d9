/-
  Two changes, two entries compared as structs; laws for regions that draw their order; the walks of few, light, SameChanges and Same (conditions: digests of 32 bytes, at most 1000000 elements).
-/
import Derived.Test.YtecllfbadciaoaaGreatDoorZip
import Derived.Test.YtecllfbadciaoaaGreatDoorQ4
import Derived.Laws.StructEq
set_option maxRecDepth 100000
set_option maxHeartbeats 8000000
namespace Go.Proofs.YtecllfbadciaoaaGreatDoor
open Go.RowKit
theorem part_p (s : ByteArray) (l : List Value) (w : World) : (part 9 (Value.string s :: l).toArray 0).run Tryz.prog w = .ok (.string s) w := by
 have hu : (underlying 9).run Tryz.prog w = .ok .string w := run_underlying Tryz.underlying9 w
 simp [part, isAgg, hu]
theorem part_d (pre d post : List Value) (o : Nat) (ho : o = pre.length) (hd : d.length = 32) (w : World) : (part 80 (pre ++ (d ++ post)).toArray o).run Tryz.prog w = .ok (.agg d.toArray) w := by
 have hu := run_underlying Tryz.underlying80 w
 have hs : (sizeOf 80).run Tryz.prog w = .ok 32 w := by
  cases h : Tryz.prog.info? 80 with
  | none => have := infoD; rw [h] at this; cases this
  | some i => have := infoD; rw [h] at this; injection this with this; simp [sizeOf, typeInfo, h, this]
 subst ho
 simp only [part, isAgg, Sem.run_bind, hu, Result.andThen_ok, Sem.run_pure, if_true, hs]
 congr 2
 simp [List.extract_eq_take_drop, ← hd]
theorem fieldsE : (Tryz.prog.fieldsOf 82).toList.map (fun f => (f.name, f.type, f.offset)) = [("Path", 9, 0), ("Digest", 80, 1)] := by kernel_rfl
theorem eqF_cons {d : Nat} {xs ys : Array Value} {f : Field} {fs : List Field} {a b : Value} {r : Bool} {w : World} (hn : f.name ≠ "_") (ha : (part f.type xs f.offset).run Tryz.prog w = .ok a w) (hb : (part f.type ys f.offset).run Tryz.prog w = .ok b w) (hr : (Op.equalIn d f.type a b).run Tryz.prog w = .ok r w) {q : Bool}
 (hq : (Op.eqFields d xs ys fs).run Tryz.prog w = .ok q w) : (Op.eqFields d xs ys (f :: fs)).run Tryz.prog w = .ok (r && q) w := by
 simp only [Op.eqFields, hn, ne_eq, not_false_eq_true, if_true, Sem.run_bind, ha, hb, hr, Result.andThen_ok]
 cases r
 ·simp
 ·simpa using hq
theorem eqIn_str (d : Nat) (a b : ByteArray) (w : World) : (Op.equalIn (d + 1) 9 (.string a) (.string b)).run Tryz.prog w = .ok (decide (a = b)) w := by
 rw [run_equalIn_string w d _ a b Tryz.underlying9]
 congr 1
 by_cases h : a = b
 ·subst h; simp
 ·rw [decide_eq_false h, beq_eq_false_iff_ne]; exact fun e => h (toList_inj e)
theorem two {l : List Field} {n1 n2 : String} {t1 t2 o1 o2 : Nat} (h : l.map (fun f => (f.name, f.type, f.offset)) = [(n1, t1, o1), (n2, t2, o2)]) :
 ∃ f g : Field, l = [f, g] ∧ (f.name = n1 ∧ f.type = t1 ∧ f.offset = o1) ∧ (g.name = n2 ∧ g.type = t2 ∧ g.offset = o2) := by
 match l, h with
 | [f, g], h => simp at h; exact ⟨f, g, rfl, h.1, h.2⟩
theorem eqIn_E (x y : En) (hx : OkE x) (hy : OkE y) (w : World) : (Op.equalIn 10000 82 (.agg (enL x).toArray) (.agg (enL y).toArray)).run Tryz.prog w = .ok (decide (x = y)) w := by
 rw [run_equalIn_struct w 9999 _ _ _ (by kernel_rfl) (by kernel_rfl)]
 obtain ⟨f, g, e, ⟨f1, f2, f3⟩, ⟨g1, g2, g3⟩⟩ := two fieldsE
 rw [e]
 have po : ∀ z : En, OkE z → (part 80 (enL z).toArray 1).run Tryz.prog w = .ok (.agg (z.d.map (Value.int .u8)).toArray) w := fun z hz => by
  have := part_d [.string z.p] (z.d.map (Value.int .u8)) [] 1 rfl (by rw [List.length_map, hz.1]) w
  simpa [enL] using this
 have r := eqF_cons (d := 9999) (xs := (enL x).toArray) (ys := (enL y).toArray) (f := f) (fs := [g]) (by rw [f1]; decide) (by rw [f2, f3]; exact part_p x.p _ w) (by rw [f2, f3]; exact part_p y.p _ w) (by rw [f2]; exact eqIn_str 9998 x.p y.p w)
  (eqF_cons (by rw [g1]; decide) (by rw [g2, g3]; exact po x hx) (by rw [g2, g3]; exact po y hy) (by rw [g2]; exact eq_digD 9997 x.d y.d hx.1 hy.1 w) (show (Op.eqFields 9999 _ _ []).run _ w = .ok true w by simp [Op.eqFields]))
 rw [r]
 congr 1
 rw [Bool.eq_iff_iff]
 cases x; cases y
 simp
theorem yieldsIf_buildS {P : Program} {ops : Array Oper} {S : World → Prop} {op : Oper} {a : Act} (hw : Region.wanted op (yielded ops a.tmps) = true) (t : TypeId) (parts : List (Nat × Operand)) (ho : op.op = .build t parts.toArray)
 (vs : List (Nat × Value)) (hv : (parts.map fun (i, x) => (i, a.eval x)) = vs) (v : Value) (hrun : ∀ w, S w → (Instr.build t vs.toArray).run P w = .ok v w) : YieldsIf P ops S op v a :=
 .inl ⟨hw, fun w hw' => by
  unfold execOp
  simp only [ho, Sem.run_bind, List.map_toArray, hv, hrun w hw', Result.andThen_ok, Sem.run_pure]⟩
theorem wp_slice_eqS {P : Program} {o : Oper} {a : Act} {w : World} {K : Act → World → Prop} {Q : Exit → Act → World → Prop} (t : TypeId) (k : Nat) (parts : List (Nat × Operand)) (ho : o.op = .buildSlice t k parts.toArray)
 (vs : List (Nat × Value)) (hv : (parts.map fun (i, x) => (i, a.eval x)) = vs) (v : Value) (w' : World) (hrun : (Instr.buildSlice t k vs.toArray).run P w = .ok v w') (h : K (a.put o.dst v) w') : o.wp P a w K Q := by
 unfold Oper.wp execOp
 simp only [ho, Sem.run_bind, List.map_toArray, hv, hrun, Result.andThen_ok]
 exact h
theorem wp_append_enS {o : Oper} {a : Act} {w : World} {K : Act → World → Prop} {Q : Exit → Act → World → Prop} (s x : Operand)
 (ho : o.op = .call { callee := .builtin .append, args := #[s, x], argTypes := #[29, 29] }) (base : Nat) (v : Value) (l : List En) (n : Nat) (hn : n = l.length) (hs : a.eval s = v) (hown : OwnE w base v l)
 (g : Nat) (y : En) (hx : a.eval x = .slice (some ⟨g, 0, none⟩) 1 1) (hy : EnB w g y) (hok : OkE y) (hlen : n ≤ 1000000) (hbase : base ≤ w.heap.size)
 (h : ∀ sp cap w', Hid (OwnE w' base (.slice sp (n + 1) cap) (l ++ [y])) → Hid (Below base w w') → Hid (w.grownBy w' v.ownBlock) → K (a.put o.dst (.slice sp (n + 1) cap)) w') : o.wp Tryz.prog a w K Q := by
 subst hn
 obtain ⟨i0, hi0, hz0, hz1, hz2⟩ := info_parts infoE3
 refine wp_append_own w s x _ ho base _ i0 _ 33 48 Tryz.underlying29 hi0 hz0 hz1 hz2 rfl (by decide) v l.length _ hs hown.1 ⟨g, 0, none⟩ 1 1 (enL y) hx (by rw [enL_length hok]) ?_ (enL_one y) (by unfold maxLen; omega) (by omega) hbase ?_
 ·intro j u hj
  rw [Addr.add_mid]
  exact hy.all j u hj
 ·intro v' w' h1 h2 _
  obtain ⟨sp, cap, rfl⟩ := own_shapeS h1
  refine h sp cap w' ⟨by rw [rowsE_snoc, List.length_append]; exact h1, fun z hz => ?_⟩ ((Below.refl base w).grown h2 hbase (own_baseS hown.1)) h2
  rcases List.mem_append.1 hz with hz | hz
  ·exact hown.2 z hz
  ·rw [List.mem_singleton.1 hz]; exact hok
theorem EnsIn.at {w : World} {B g off n cap : Nat} {l : List En} (h : EnsIn w B (some ⟨g, off, none⟩) n cap l) {i : Nat} {x : En} (hi : l[i]? = some x) : g < B ∧ w.rangeAt g (off + i * 33) (enL x) := by
 have hl := (List.getElem?_eq_some_iff.1 hi).1
 obtain ⟨b, o, e, hb, _, hr⟩ := h.cells (by have := h.len; omega)
 injection e with e; injection e with e1 e2; subst e1 e2
 exact ⟨hb, hr i x hi⟩
theorem rngE_p {w : World} {g o : Nat} {x : En} (h : w.rangeAt g o (enL x)) : w.cell? ⟨g, o, none⟩ = some (.string x.p) := h 0 _ rfl
theorem sameTo_succ {α : Type} [DecidableEq α] {a b : List α} {k : Nat} {x y : α} (hx : a[k]? = some x) (hy : b[k]? = some y) (h : a.take k = b.take k) : a.take (k + 1) = b.take (k + 1) ↔ x = y := by
 rw [List.take_add_one, List.take_add_one, hx, hy, h]; simp
theorem sameE_any (sp1 : Option Addr) (n1 c1 : Nat) (a : List En) (sp2 : Option Addr) (n2 c2 : Nat) (b : List En) (w : World) (ha : EnsIn w w.heap.size sp1 n1 c1 a) (hb : EnsIn w w.heap.size sp2 n2 c2 b) (hn : n1 ≤ 1000000) :
 Calls Tryz.prog 21 #[.slice sp1 n1 c1, .slice sp2 n2 c2] w fun e w' => e = .returned (.bool (decide (a = b))) ∧ Below w.heap.size w w' := by
 have HA := zh ha; have HBb := zh hb; clear ha hb
 by_cases hne : n1 = n2
 ·subst hne
  have hd : (!((n1 : Int) == (n1 : Int))) = false := by simp
  go_enter Tryz.func21, Tryz.ntmps21
  go_wp2_with fail
  go_loopw [5] (fun i wr => ∃ k : Nat, k ≤ n1 ∧ i = .int .i64 k ∧ Hid (a.take k = b.take k) ∧ Hid (Below w.heap.size w wr)) (fun i _ => n1 - (intOf i).toNat)
  case atStart => exact ⟨0, Nat.zero_le _, rfl, rfl, Below.refl _ _⟩
  case round =>
  obtain ⟨k, hk, rfl, HT, hbe⟩ := hrel
  by_cases hlt : k < n1
  ·have hd : decide ((k : Int) < (n1 : Int)) = true := by simp; omega
   obtain ⟨x, hx⟩ : ∃ x, a[k]? = some x := ⟨a[k]'(by have := HA.out.len; omega), List.getElem?_eq_getElem _⟩
   obtain ⟨y, hy⟩ : ∃ y, b[k]? = some y := ⟨b[k]'(by have := HBb.out.len; omega), List.getElem?_eq_getElem _⟩
   obtain ⟨b1, o1, rfl, hb1, hcap1, -⟩ := HA.out.cells (by omega)
   obtain ⟨b2, o2, rfl, hb2, hcap2, -⟩ := HBb.out.cells (by omega)
   have HX := zh (range_belowS (HA.out.at hx).2 hbe.out.drew hb1)
   have HY := zh (range_belowS (HBb.out.at hy).2 hbe.out.drew hb2)
   have HIX := zh (info_e (HA.out.ok x (List.mem_of_getElem? hx)))
   have HIY := zh (info_e (HBb.out.ok y (List.mem_of_getElem? hy)))
   have HS := zh (sameTo_succ hx hy HT.out)
   have he := eqIn_E x y (HA.out.ok x (List.mem_of_getElem? hx)) (HBb.out.ok y (List.mem_of_getElem? hy))
   obtain ⟨c, hc⟩ : ∃ c, decide (x = y) = c := ⟨_, rfl⟩
   rw [hc] at he
   have HC := zh hc
   have p1 : (0 : Int) ≤ (k : Int) := by omega
   have p2 : (k : Int) < (n1 : Int) := by omega
   have q1 : IntKind.i64.wrap (k : Int) = (k : Int) := IntWalk.i64_in _ (by omega)
   have HB1 := zh hbe.out.drew
   clear hx hy hc
   go_wp2_with fail
   refine wp_region_held_drew (S := fun w' => w'.rangeAt b1 (o1 + k * 33) (enL x) ∧ w'.rangeAt b2 (o2 + k * 33) (enL y)) (by kernel_rfl) ⟨HX.out, HY.out⟩ (fun hHeld => ?_)
   refine zv 0 rfl ?_
   refine zv 1 rfl ?_
   refine zv 2 rfl ?_
   refine' zk 3 rfl (v := _) (yieldsIf_load_mid (by rfl) _ _ rfl _ _ rfl _ _ ?hS3n13 Tryz.underlying82 rfl HIX.out) ?rest3n13
   case hS3n13 =>
    intro w' hSw
    exact hSw.1
   try simp only [Act.put, zuA, zuB, zuC, zuD, zuY, zuF]
   refine zv 4 rfl ?_
   refine zv 5 rfl ?_
   refine zv 6 rfl ?_
   refine' zk 7 rfl (v := _) (yieldsIf_load_mid (by rfl) _ _ rfl _ _ rfl _ _ ?hS7n17 Tryz.underlying82 rfl HIY.out) ?rest7n17
   case hS7n17 =>
    intro w' hSw
    exact hSw.2
   try simp only [Act.put, zuA, zuB, zuC, zuD, zuY, zuF]
   refine zv 8 rfl ?_
   refine zd ?_ _
   clear hHeld
   cases c
   ·have HZ : Hid (decide (a = b) = false) := by
     show _ = _
     rw [decide_eq_false_iff_not]
     intro e
     have h1 := HC.out
     rw [decide_eq_false_iff_not] at h1
     exact h1 (HS.out.1 (by rw [e]))
    go_wp2_with fail
    go_ret
    exact ⟨ret_boolP HZ.out.symm, HB1.out⟩
   ·go_wp2_with fail
    go_roundw
    case rel => exact ⟨k + 1, by omega, by go_num, HS.out.2 (by simpa using HC.out), HB1⟩
    case measure => simp [intOf]; omega
  ·obtain rfl : k = n1 := by omega
   have hd : decide ((k : Int) < (k : Int)) = false := by simp
   have HZ : Hid (decide (a = b) = true) := by
    show _ = _
    have h1 := HT.out
    rw [List.take_of_length_le (by rw [HA.out.len]; exact Nat.le_refl _), List.take_of_length_le (by rw [HBb.out.len]; exact Nat.le_refl _)] at h1
    simpa using h1
   go_wp2_with fail
   go_ret
   exact ⟨ret_boolP HZ.out.symm, hbe.out⟩
 ·have hd : (!((n1 : Int) == (n2 : Int))) = true := by simp; omega
  have HZ : Hid (decide (a = b) = false) := by
   show _ = _
   rw [decide_eq_false_iff_not]
   intro e
   apply hne
   rw [← HA.out.len, ← HBb.out.len, e]
  go_enter Tryz.func21, Tryz.ntmps21
  go_wp2_with fail
  go_ret
  exact ⟨ret_boolP HZ.out.symm, Below.refl _ _⟩
theorem indexByteLite_anyS (s : ByteArray) (c : Int) (w : World) :
 Calls Tryz.prog 126 #[.string s, .int .u8 c] w fun e w' => e = .returned (.int .i64 (Lib.indexByte s.data.toList c.toNat.toUInt8)) ∧ w = w' := by
 go_enter Tryz.func126, Tryz.ntmps126
 go_wp2
 rw [run_callFunc_extern Tryz.func141 (by kernel_rfl) (by kernel_rfl) (by kernel_rfl) (e := Extern.BytealgIndexByte.indexByte) (by kernel_rfl), Lib.run_indexByteString]
 simp only [Result.andThen]
 rw [Oper.upon_value]
 go_wp2
 go_ret
 exact ⟨rfl, rfl⟩
def oneB (c : UInt8) : ByteArray := ⟨#[c]⟩
theorem oneB_size (c : UInt8) : (oneB c).size = 1 := rfl
theorem oneB_at (c : UInt8) (h : 0 < (oneB c).size) : (oneB c)[0] = c := rfl
theorem indexB_oneS (s : ByteArray) (c : UInt8) : Lib.indexB s (oneB c) = Lib.indexByte s.data.toList c := by
 show Lib.index s.data.toList [c] = _
 exact Lib.index_one _ _
theorem byte_backS (c : UInt8) : ((c.toNat : Int)).toNat.toUInt8 = c := by simp
theorem indexLite_anyS (s : ByteArray) (c : UInt8) (w : World) :
 Calls Tryz.prog 131 #[.string s, .string (oneB c)] w fun e w' => e = .returned (.int .i64 (Lib.indexB s (oneB c))) ∧ w = w' := by
 have hsz := oneB_size c
 have hat := oneB_at c
 rw [indexB_oneS]
 have hne : (oneB c).toList ≠ [] := by rw [Lib.toList_data]; simp [oneB]
 by_cases h : ((oneB c).toList == s.toList) = true
 ·have hl : s.data.toList = [c] := by rw [beq_iff_eq, Lib.toList_data, Lib.toList_data] at h; exact h.symm
  have HI : Hid (Lib.indexByte s.data.toList c = 0) := by show _ = _; rw [hl]; simp [Lib.indexByte]
  clear hl
  go_enter Tryz.func131, Tryz.ntmps131
  go_wp2_with fail
  go_ret
  exact ⟨by rw [HI.out]; rfl, rfl⟩
 ·have h : ((oneB c).toList == s.toList) = false := by simpa using h
  have HC := zh (fun w => indexByteLite_anyS s (c.toNat : Int) w)
  have HB := zh (byte_backS c)
  go_enter Tryz.func131, Tryz.ntmps131
  go_wp2_with fail
  refine (HC.out _).mono ?_
  rintro e w' ⟨rfl, rfl⟩
  rw [HB.out]
  go_wp2_with fail
  go_ret
  exact ⟨rfl, rfl⟩
theorem index_anyS (s : ByteArray) (c : UInt8) (w : World) :
 Calls Tryz.prog 129 #[.string s, .string (oneB c)] w fun e w' => e = .returned (.int .i64 (Lib.indexB s (oneB c))) ∧ w = w' := by
 go_enter Tryz.func129, Tryz.ntmps129
 go_wp2_with (go_at_call 131; refine (indexLite_anyS _ _ _).mono ?_; rintro e w' ⟨rfl, rfl⟩)
 go_ret
 exact ⟨rfl, rfl⟩
theorem countB_oneS (s : ByteArray) (c : UInt8) : Lib.countB s (oneB c) = Lib.countByte s.data.toList c := by
 show Lib.count s.data.toList [c] = _
 exact Lib.count_one _ _
theorem count_anyS (s : ByteArray) (c : UInt8) (w : World) :
 Calls Tryz.prog 128 #[.string s, .string (oneB c)] w fun e w' => e = .returned (.int .i64 (Lib.countB s (oneB c) : Int)) ∧ w = w' := by
 have hsz := oneB_size c
 have hat := oneB_at c
 rw [countB_oneS]
 have HB := zh (byte_backS c)
 go_enter Tryz.func128, Tryz.ntmps128
 go_wp2_with fail
 rw [run_callFunc_extern Tryz.func144 (by kernel_rfl) (by kernel_rfl) (by kernel_rfl) (e := Extern.BytealgCount.count) (by kernel_rfl), Lib.run_countString, HB.out]
 simp only [Result.andThen]
 rw [Oper.upon_value]
 go_wp2_with fail
 go_ret
 exact ⟨rfl, rfl⟩
theorem infoStrS : (Tryz.prog.info? 9).map (fun i => (i.zero, i.size, i.bytes)) = some (some (.string ByteArray.empty), 1, 16) := by kernel_rfl
theorem makeS (n : Nat) (h : n ≤ 100000000) (w : World) : (Instr.makeSlice 27 (.int .i64 ((n : Int) + 1)) (.int .i64 ((n : Int) + 1))).run Tryz.prog w = .ok (.slice (some ⟨w.heap.size, 0, none⟩) (n + 1) (n + 1)) (w.alloc (.cells (Lib.cellsOf [] (n + 1)) 9)) := by
 have h1 := run_make_row' (P := Tryz.prog) 27 9 (.string ByteArray.empty) 16 Tryz.underlying27 infoStrS rfl .i64 .i64 (n + 1) (by omega) (by omega) w
 rw [← Lib.cellsOf_nil] at h1
 exact h1
theorem splitB_missS (s : ByteArray) (c : UInt8) (h : Lib.indexB s (oneB c) = -1) (m : Nat) : Lib.splitB (oneB c) 0 m s = [s] := Lib.splitB_miss _ _ _ _ h
theorem genSplit_anyS (s : ByteArray) (c : UInt8) (w : World) (hs : s.size ≤ 10000000) :
 Calls Tryz.prog 108 #[.string s, .string (oneB c), .int .i64 0, .int .i64 (-1)] w fun e w' => e = .returned (.slice (some ⟨w.heap.size, 0, none⟩) (Lib.countB s (oneB c) + 1) (Lib.countB s (oneB c) + 1)) ∧
  w' = w.alloc (.cells ((Lib.splitB (oneB c) 0 (Lib.countB s (oneB c)) s).map Value.string).toArray 9) := by
 have hsz := oneB_size c
 have hne : (oneB c).toList ≠ [] := by rw [Lib.toList_data]; simp [oneB]
 have hn1 : ((oneB c).toList == []) = false := by simpa using hne
 have hn2 : (oneB c).toList.isEmpty = false := by simpa using hne
 have hle := Lib.countB_le (oneB c) (by rw [hsz]; exact Nat.le_refl _) s.size s (Nat.le_refl _)
 have hall := Lib.splitB_all (oneB c) (by rw [hsz]; exact Nat.le_refl _) 0 _ s rfl
 have HC := zh (fun w => count_anyS s c w)
 have HIX := zh (fun r w => index_anyS r c w)
 obtain ⟨N, hN⟩ : ∃ N, Lib.countB s (oneB c) = N := ⟨_, rfl⟩
 rw [hN] at hle hall HC ⊢
 obtain ⟨ps, hps⟩ : ∃ ps, Lib.splitB (oneB c) 0 N s = ps := ⟨_, rfl⟩
 rw [hps] at hall ⊢
 have HALL := zh hall; have HPS := zh hps
 have hmin : min ((N : Int) + 1) ((s.size : Int) + 1) = (N : Int) + 1 := Int.min_eq_left (by omega)
 have hmk := makeS N (by omega)
 have q1 : (N : Int) ≤ 10000000 := by omega
 clear hN hall hps
 go_enter Tryz.func108, Tryz.ntmps108
 go_wp2_with fail
 refine (HC.out _).mono ?_
 rintro e w' ⟨rfl, rfl⟩
 go_wp2_with fail
 clear hmk hmin HC
 go_loopw [0, 10] (fun sv iv wr => ∃ (done : List ByteArray) (rest : ByteArray), sv = .string rest ∧ iv = .int .i64 (done.length : Int) ∧ done.length ≤ N ∧ rest.size ≤ s.size ∧ Hid (done ++ Lib.splitB (oneB c) 0 (N - done.length) rest = ps) ∧ wr = w.alloc (.cells (Lib.cellsOf done (N + 1)) 9)) (fun _ iv _ => N - (intOf iv).toNat)
 case atStart => exact ⟨[], s, rfl, rfl, Nat.zero_le _, Nat.le_refl _, HPS.out, rfl⟩
 case round =>
  obtain ⟨done, rest, rfl, rfl, hd, hrs, HS, rfl⟩ := hrel
  have hnext : (Lib.cellsOf done (N + 1))[done.length]? = some (.string ByteArray.empty) := Lib.cellsOf_next (by omega)
  have hcz := Lib.cellsOf_size (done := done) (N := N + 1) (by omega)
  have HSET := zh (fun x => Lib.cellsOf_set (done := done) (N := N + 1) (by omega) x)
  obtain ⟨k, hk⟩ : ∃ k, done.length = k := ⟨_, rfl⟩
  rw [hk] at hnext HSET hd HS ⊢
  have HK := zh hk
  have p1 : (0 : Int) ≤ (k : Int) := by omega
  have p2 : (k : Int) < (N : Int) + 1 := by omega
  by_cases hlt : k < N
  ·have hdl : decide ((k : Int) < (N : Int)) = true := by simp; omega
   rcases Lib.indexB_cases rest (oneB c) with hix | ⟨i, hix, hroom⟩
   ·exfalso
    have e := HS.out
    rw [splitB_missS rest c hix] at e
    have := HALL.out
    rw [← e, List.length_append, hk] at this
    simp at this
    omega
   ·have HI := zh hix
    have hr1 : i + 1 ≤ rest.size := hroom
    have HSN : Hid ((done ++ [rest.extract 0 i]) ++ Lib.splitB (oneB c) 0 (N - (k + 1)) (rest.extract (i + 1) rest.size) = ps) := by
     show _ = _
     have e := HS.out
     rw [show N - k = (N - (k + 1)) + 1 by omega, Lib.splitB_hit (oneB c) 0 _ rest i hix] at e
     rw [← e, List.append_assoc]; rfl
    have c0 : decide ((i : Int) < 0) = false := by simp
    have c1 : (0 : Int) ≤ (i : Int) := by omega
    have c2 : (i : Int) ≤ (rest.size : Int) := by omega
    have c3 : (0 : Int) ≤ (i : Int) + 1 := by omega
    have c4 : (i : Int) + 1 ≤ (rest.size : Int) := by omega
    have c5 : ((i : Int) + 1).toNat = i + 1 := by omega
    have c6 : (i : Int) ≤ 10000000 := by omega
    clear hix hroom hk
    go_wp2_with fail
    refine (HIX.out rest _).mono ?_
    rintro e w' ⟨rfl, rfl⟩
    rw [HI.out]
    go_wp2_with fail
    go_roundw
    case rel =>
     refine ⟨done ++ [rest.extract 0 i], _, rfl, ?_, ?_, ?_, ?_, ?_⟩
     ·rw [List.length_append, HK.out]; go_num
     ·rw [List.length_append, HK.out]; exact hlt
     ·rw [ByteArray.size_extract]; omega
     ·rw [List.length_append, HK.out]; exact HSN
     ·rw [HSET.out]
    case measure => simp [intOf]; omega
  ·obtain rfl : k = N := by omega
   have hdl : decide ((k : Int) < (k : Int)) = false := by simp
   have HF : Hid ((Lib.cellsOf done (k + 1)).setIfInBounds k (.string rest) = (ps.map Value.string).toArray) := by
    show _ = _
    have e := HS.out
    rw [Nat.sub_self] at e
    have e2 : done ++ [rest] = ps := e
    rw [HSET.out, e2]
    have := Lib.cellsOf_full ps
    rw [HALL.out] at this
    exact this
   have p3 : (0 : Int) ≤ (k : Int) + 1 := by omega
   have p4 : ((k : Int) + 1).toNat = k + 1 := by omega
   clear hk
   go_wp2_with fail
   go_ret
   refine ⟨rfl, ?_⟩
   rw [← HF.out]
theorem split_anyS (s : ByteArray) (c : UInt8) (w : World) (hs : s.size ≤ 10000000) :
 Calls Tryz.prog 71 #[.string s, .string (oneB c)] w fun e w' => e = .returned (.slice (some ⟨w.heap.size, 0, none⟩) (Lib.countB s (oneB c) + 1) (Lib.countB s (oneB c) + 1)) ∧
  w' = w.alloc (.cells ((Lib.splitB (oneB c) 0 (Lib.countB s (oneB c)) s).map Value.string).toArray 9) := by
 have HC := zh (fun w => genSplit_anyS s c w hs)
 clear hs
 go_enter Tryz.func71, Tryz.ntmps71
 go_wp2_with fail
 refine (HC.out _).mono ?_
 rintro e w' ⟨rfl, rfl⟩
 go_wp2_with fail
 go_ret
 exact ⟨rfl, rfl⟩
end Go.Proofs.YtecllfbadciaoaaGreatDoor
