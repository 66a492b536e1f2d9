/-
  Two changes, two entries compared as structs; laws for regions that draw their order; the walks of few, light, SameChanges and Same (conditions: digests of 32 bytes, at most 1000000 elements).
-/
import Derived.Test.YtecllfbadciaoaaGreatDoorZip
import Derived.Test.YtecllfbadciaoaaGreatDoorQ6
import Derived.Laws.StructEq
set_option maxRecDepth 100000
set_option maxHeartbeats 8000000
namespace Go.Proofs.YtecllfbadciaoaaGreatDoor
open Go.RowKit
theorem part_p (s : ByteArray) (l : List Value) (w : World) : (part 9 (Value.string s :: l).toArray 0).run Tryz.prog w = .ok (.string s) w := by
 have hu : (underlying 9).run Tryz.prog w = .ok .string w := run_underlying Tryz.underlying9 w
 simp [part, isAgg, hu]
theorem part_d (pre d post : List Value) (o : Nat) (ho : o = pre.length) (hd : d.length = 32) (w : World) : (part 80 (pre ++ (d ++ post)).toArray o).run Tryz.prog w = .ok (.agg d.toArray) w := by
 have hu := run_underlying Tryz.underlying80 w
 have hs : (sizeOf 80).run Tryz.prog w = .ok 32 w := by
  cases h : Tryz.prog.info? 80 with
  | none => have := infoD; rw [h] at this; cases this
  | some i => have := infoD; rw [h] at this; injection this with this; simp [sizeOf, typeInfo, h, this]
 subst ho
 simp only [part, isAgg, Sem.run_bind, hu, Result.andThen_ok, Sem.run_pure, if_true, hs]
 congr 2
 simp [List.extract_eq_take_drop, ← hd]
theorem fieldsE : (Tryz.prog.fieldsOf 82).toList.map (fun f => (f.name, f.type, f.offset)) = [("Path", 9, 0), ("Digest", 80, 1)] := by kernel_rfl
theorem eqF_cons {d : Nat} {xs ys : Array Value} {f : Field} {fs : List Field} {a b : Value} {r : Bool} {w : World} (hn : f.name ≠ "_") (ha : (part f.type xs f.offset).run Tryz.prog w = .ok a w) (hb : (part f.type ys f.offset).run Tryz.prog w = .ok b w) (hr : (Op.equalIn d f.type a b).run Tryz.prog w = .ok r w) {q : Bool}
 (hq : (Op.eqFields d xs ys fs).run Tryz.prog w = .ok q w) : (Op.eqFields d xs ys (f :: fs)).run Tryz.prog w = .ok (r && q) w := by
 simp only [Op.eqFields, hn, ne_eq, not_false_eq_true, if_true, Sem.run_bind, ha, hb, hr, Result.andThen_ok]
 cases r
 ·simp
 ·simpa using hq
theorem eqIn_str (d : Nat) (a b : ByteArray) (w : World) : (Op.equalIn (d + 1) 9 (.string a) (.string b)).run Tryz.prog w = .ok (decide (a = b)) w := by
 rw [run_equalIn_string w d _ a b Tryz.underlying9]
 congr 1
 by_cases h : a = b
 ·subst h; simp
 ·rw [decide_eq_false h, beq_eq_false_iff_ne]; exact fun e => h (toList_inj e)
theorem two {l : List Field} {n1 n2 : String} {t1 t2 o1 o2 : Nat} (h : l.map (fun f => (f.name, f.type, f.offset)) = [(n1, t1, o1), (n2, t2, o2)]) :
 ∃ f g : Field, l = [f, g] ∧ (f.name = n1 ∧ f.type = t1 ∧ f.offset = o1) ∧ (g.name = n2 ∧ g.type = t2 ∧ g.offset = o2) := by
 match l, h with
 | [f, g], h => simp at h; exact ⟨f, g, rfl, h.1, h.2⟩
theorem eqIn_E (x y : En) (hx : OkE x) (hy : OkE y) (w : World) : (Op.equalIn 10000 82 (.agg (enL x).toArray) (.agg (enL y).toArray)).run Tryz.prog w = .ok (decide (x = y)) w := by
 rw [run_equalIn_struct w 9999 _ _ _ (by kernel_rfl) (by kernel_rfl)]
 obtain ⟨f, g, e, ⟨f1, f2, f3⟩, ⟨g1, g2, g3⟩⟩ := two fieldsE
 rw [e]
 have po : ∀ z : En, OkE z → (part 80 (enL z).toArray 1).run Tryz.prog w = .ok (.agg (z.d.map (Value.int .u8)).toArray) w := fun z hz => by
  have := part_d [.string z.p] (z.d.map (Value.int .u8)) [] 1 rfl (by rw [List.length_map, hz.1]) w
  simpa [enL] using this
 have r := eqF_cons (d := 9999) (xs := (enL x).toArray) (ys := (enL y).toArray) (f := f) (fs := [g]) (by rw [f1]; decide) (by rw [f2, f3]; exact part_p x.p _ w) (by rw [f2, f3]; exact part_p y.p _ w) (by rw [f2]; exact eqIn_str 9998 x.p y.p w)
  (eqF_cons (by rw [g1]; decide) (by rw [g2, g3]; exact po x hx) (by rw [g2, g3]; exact po y hy) (by rw [g2]; exact eq_digD 9997 x.d y.d hx.1 hy.1 w) (show (Op.eqFields 9999 _ _ []).run _ w = .ok true w by simp [Op.eqFields]))
 rw [r]
 congr 1
 rw [Bool.eq_iff_iff]
 cases x; cases y
 simp
theorem yieldsIf_buildS {P : Program} {ops : Array Oper} {S : World → Prop} {op : Oper} {a : Act} (hw : Region.wanted op (yielded ops a.tmps) = true) (t : TypeId) (parts : List (Nat × Operand)) (ho : op.op = .build t parts.toArray)
 (vs : List (Nat × Value)) (hv : (parts.map fun (i, x) => (i, a.eval x)) = vs) (v : Value) (hrun : ∀ w, S w → (Instr.build t vs.toArray).run P w = .ok v w) : YieldsIf P ops S op v a :=
 .inl ⟨hw, fun w hw' => by
  unfold execOp
  simp only [ho, Sem.run_bind, List.map_toArray, hv, hrun w hw', Result.andThen_ok, Sem.run_pure]⟩
theorem wp_slice_eqS {P : Program} {o : Oper} {a : Act} {w : World} {K : Act → World → Prop} {Q : Exit → Act → World → Prop} (t : TypeId) (k : Nat) (parts : List (Nat × Operand)) (ho : o.op = .buildSlice t k parts.toArray)
 (vs : List (Nat × Value)) (hv : (parts.map fun (i, x) => (i, a.eval x)) = vs) (v : Value) (w' : World) (hrun : (Instr.buildSlice t k vs.toArray).run P w = .ok v w') (h : K (a.put o.dst v) w') : o.wp P a w K Q := by
 unfold Oper.wp execOp
 simp only [ho, Sem.run_bind, List.map_toArray, hv, hrun, Result.andThen_ok]
 exact h
theorem wp_append_enS {o : Oper} {a : Act} {w : World} {K : Act → World → Prop} {Q : Exit → Act → World → Prop} (s x : Operand)
 (ho : o.op = .call { callee := .builtin .append, args := #[s, x], argTypes := #[29, 29] }) (base : Nat) (v : Value) (l : List En) (n : Nat) (hn : n = l.length) (hs : a.eval s = v) (hown : OwnE w base v l)
 (g : Nat) (y : En) (hx : a.eval x = .slice (some ⟨g, 0, none⟩) 1 1) (hy : EnB w g y) (hok : OkE y) (hlen : n ≤ 1000000) (hbase : base ≤ w.heap.size)
 (h : ∀ sp cap w', Hid (OwnE w' base (.slice sp (n + 1) cap) (l ++ [y])) → Hid (Below base w w') → Hid (w.grownBy w' v.ownBlock) → K (a.put o.dst (.slice sp (n + 1) cap)) w') : o.wp Tryz.prog a w K Q := by
 subst hn
 obtain ⟨i0, hi0, hz0, hz1, hz2⟩ := info_parts infoE3
 refine wp_append_own w s x _ ho base _ i0 _ 33 48 Tryz.underlying29 hi0 hz0 hz1 hz2 rfl (by decide) v l.length _ hs hown.1 ⟨g, 0, none⟩ 1 1 (enL y) hx (by rw [enL_length hok]) ?_ (enL_one y) (by unfold maxLen; omega) (by omega) hbase ?_
 ·intro j u hj
  rw [Addr.add_mid]
  exact hy.all j u hj
 ·intro v' w' h1 h2 _
  obtain ⟨sp, cap, rfl⟩ := own_shapeS h1
  refine h sp cap w' ⟨by rw [rowsE_snoc, List.length_append]; exact h1, fun z hz => ?_⟩ ((Below.refl base w).grown h2 hbase (own_baseS hown.1)) h2
  rcases List.mem_append.1 hz with hz | hz
  ·exact hown.2 z hz
  ·rw [List.mem_singleton.1 hz]; exact hok
theorem EnsIn.at {w : World} {B g off n cap : Nat} {l : List En} (h : EnsIn w B (some ⟨g, off, none⟩) n cap l) {i : Nat} {x : En} (hi : l[i]? = some x) : g < B ∧ w.rangeAt g (off + i * 33) (enL x) := by
 have hl := (List.getElem?_eq_some_iff.1 hi).1
 obtain ⟨b, o, e, hb, _, hr⟩ := h.cells (by have := h.len; omega)
 injection e with e; injection e with e1 e2; subst e1 e2
 exact ⟨hb, hr i x hi⟩
theorem rngE_p {w : World} {g o : Nat} {x : En} (h : w.rangeAt g o (enL x)) : w.cell? ⟨g, o, none⟩ = some (.string x.p) := h 0 _ rfl
theorem rngE_d {w : World} {g o : Nat} {x : En} (h : w.rangeAt g o (enL x)) : w.rangeAt g (o + 1) (x.d.map (Value.int .u8)) := rng_sub h 1 _ (fun j v hv => by
 unfold enL; rw [Nat.add_comm, List.getElem?_cons_succ]; exact hv)
theorem sameTo_succ {α : Type} [DecidableEq α] {a b : List α} {k : Nat} {x y : α} (hx : a[k]? = some x) (hy : b[k]? = some y) (h : a.take k = b.take k) : a.take (k + 1) = b.take (k + 1) ↔ x = y := by
 rw [List.take_add_one, List.take_add_one, hx, hy, h]; simp
theorem sameE_any (sp1 : Option Addr) (n1 c1 : Nat) (a : List En) (sp2 : Option Addr) (n2 c2 : Nat) (b : List En) (w : World) (ha : EnsIn w w.heap.size sp1 n1 c1 a) (hb : EnsIn w w.heap.size sp2 n2 c2 b) (hn : n1 ≤ 1000000) :
 Calls Tryz.prog 21 #[.slice sp1 n1 c1, .slice sp2 n2 c2] w fun e w' => e = .returned (.bool (decide (a = b))) ∧ Below w.heap.size w w' := by
 have HA := zh ha; have HBb := zh hb; clear ha hb
 by_cases hne : n1 = n2
 ·subst hne
  have hd : (!((n1 : Int) == (n1 : Int))) = false := by simp
  go_enter Tryz.func21, Tryz.ntmps21
  go_wp2_with fail
  go_loopw [5] (fun i wr => ∃ k : Nat, k ≤ n1 ∧ i = .int .i64 k ∧ Hid (a.take k = b.take k) ∧ Hid (Below w.heap.size w wr)) (fun i _ => n1 - (intOf i).toNat)
  case atStart => exact ⟨0, Nat.zero_le _, rfl, rfl, Below.refl _ _⟩
  case round =>
  obtain ⟨k, hk, rfl, HT, hbe⟩ := hrel
  by_cases hlt : k < n1
  ·have hd : decide ((k : Int) < (n1 : Int)) = true := by simp; omega
   obtain ⟨x, hx⟩ : ∃ x, a[k]? = some x := ⟨a[k]'(by have := HA.out.len; omega), List.getElem?_eq_getElem _⟩
   obtain ⟨y, hy⟩ : ∃ y, b[k]? = some y := ⟨b[k]'(by have := HBb.out.len; omega), List.getElem?_eq_getElem _⟩
   obtain ⟨b1, o1, rfl, hb1, hcap1, -⟩ := HA.out.cells (by omega)
   obtain ⟨b2, o2, rfl, hb2, hcap2, -⟩ := HBb.out.cells (by omega)
   have HX := zh (range_belowS (HA.out.at hx).2 hbe.out.drew hb1)
   have HY := zh (range_belowS (HBb.out.at hy).2 hbe.out.drew hb2)
   have HIX := zh (info_e (HA.out.ok x (List.mem_of_getElem? hx)))
   have HIY := zh (info_e (HBb.out.ok y (List.mem_of_getElem? hy)))
   have HS := zh (sameTo_succ hx hy HT.out)
   have he := eqIn_E x y (HA.out.ok x (List.mem_of_getElem? hx)) (HBb.out.ok y (List.mem_of_getElem? hy))
   obtain ⟨c, hc⟩ : ∃ c, decide (x = y) = c := ⟨_, rfl⟩
   rw [hc] at he
   have HC := zh hc
   have p1 : (0 : Int) ≤ (k : Int) := by omega
   have p2 : (k : Int) < (n1 : Int) := by omega
   have q1 : IntKind.i64.wrap (k : Int) = (k : Int) := IntWalk.i64_in _ (by omega)
   have HB1 := zh hbe.out.drew
   clear hx hy hc
   go_wp2_with fail
   refine wp_region_held_drew (S := fun w' => w'.rangeAt b1 (o1 + k * 33) (enL x) ∧ w'.rangeAt b2 (o2 + k * 33) (enL y)) (by kernel_rfl) ⟨HX.out, HY.out⟩ (fun hHeld => ?_)
   refine zv 0 rfl ?_
   refine zv 1 rfl ?_
   refine zv 2 rfl ?_
   refine' zk 3 rfl (v := _) (yieldsIf_load_mid (by rfl) _ _ rfl _ _ rfl _ _ ?hS3n13 Tryz.underlying82 rfl HIX.out) ?rest3n13
   case hS3n13 =>
    intro w' hSw
    exact hSw.1
   try simp only [Act.put, zuA, zuB, zuC, zuD, zuY, zuF]
   refine zv 4 rfl ?_
   refine zv 5 rfl ?_
   refine zv 6 rfl ?_
   refine' zk 7 rfl (v := _) (yieldsIf_load_mid (by rfl) _ _ rfl _ _ rfl _ _ ?hS7n17 Tryz.underlying82 rfl HIY.out) ?rest7n17
   case hS7n17 =>
    intro w' hSw
    exact hSw.2
   try simp only [Act.put, zuA, zuB, zuC, zuD, zuY, zuF]
   refine zv 8 rfl ?_
   refine zd ?_ _
   clear hHeld
   cases c
   ·have HZ : Hid (decide (a = b) = false) := by
     show _ = _
     rw [decide_eq_false_iff_not]
     intro e
     have h1 := HC.out
     rw [decide_eq_false_iff_not] at h1
     exact h1 (HS.out.1 (by rw [e]))
    go_wp2_with fail
    go_ret
    exact ⟨ret_boolP HZ.out.symm, HB1.out⟩
   ·go_wp2_with fail
    go_roundw
    case rel => exact ⟨k + 1, by omega, by go_num, HS.out.2 (by simpa using HC.out), HB1⟩
    case measure => simp [intOf]; omega
  ·obtain rfl : k = n1 := by omega
   have hd : decide ((k : Int) < (k : Int)) = false := by simp
   have HZ : Hid (decide (a = b) = true) := by
    show _ = _
    have h1 := HT.out
    rw [List.take_of_length_le (by rw [HA.out.len]; exact Nat.le_refl _), List.take_of_length_le (by rw [HBb.out.len]; exact Nat.le_refl _)] at h1
    simpa using h1
   go_wp2_with fail
   go_ret
   exact ⟨ret_boolP HZ.out.symm, hbe.out⟩
 ·have hd : (!((n1 : Int) == (n2 : Int))) = true := by simp; omega
  have HZ : Hid (decide (a = b) = false) := by
   show _ = _
   rw [decide_eq_false_iff_not]
   intro e
   apply hne
   rw [← HA.out.len, ← HBb.out.len, e]
  go_enter Tryz.func21, Tryz.ntmps21
  go_wp2_with fail
  go_ret
  exact ⟨ret_boolP HZ.out.symm, Below.refl _ _⟩
theorem zero_free {l : List UInt8} (h : ∀ j, j < l.length → l.getD j 0 ≠ 0) : Lib.indexByte l 0 < 0 := by
 have hge := Lib.indexByte_ge l 0
 rcases Int.lt_or_le (Lib.indexByte l 0) 0 with h1 | h1
 ·exact h1
 ·obtain ⟨o, ho⟩ : ∃ o : Nat, Lib.indexByte l 0 = o := ⟨(Lib.indexByte l 0).toNat, by omega⟩
  have h2 := (Lib.indexByte_some ho).1
  obtain ⟨hlt, he⟩ := List.getElem?_eq_some_iff.1 h2
  exact absurd (by rw [List.getD_eq_getElem?_getD, h2]; rfl) (h o hlt)
theorem zero_in {l : List UInt8} {j : Nat} (hj : j < l.length) (h : l.getD j 0 = 0) : ¬ Lib.indexByte l 0 < 0 := by
 intro hn
 have hge := Lib.indexByte_ge l 0
 have := Lib.indexByte_none (l := l) (c := 0) (by omega) j
 apply this
 rw [List.getElem?_eq_getElem hj]
 rw [List.getD_eq_getElem?_getD, List.getElem?_eq_getElem hj] at h
 exact congrArg some h
theorem pathB_empty {s : ByteArray} (h : s.data.toList = []) : pathB s = false := by
 have e : s = ⟨#[]⟩ := by apply ByteArray.ext; apply Array.ext'; rw [h]
 subst e; decide +kernel
theorem seg_one (s : ByteArray) : (Lib.splitB (oneB 47) 0 (Lib.countB s (oneB 47)) s) = seg s := rfl
theorem seg_len (s : ByteArray) : (seg s).length = Lib.countB s (oneB 47) + 1 := Lib.splitB_all (oneB 47) (Nat.le_refl _) 0 _ s rfl
theorem getD_byteP (s : ByteArray) (i : Nat) (h : i < s.size) : s.data.toList.getD i 0 = s[i] := by
 rw [List.getD_eq_getElem?_getD, List.getElem?_eq_getElem (by simpa using h)]; rfl
theorem refPath_any (s : ByteArray) (w : World) :
 Calls Tryz.prog 119 #[.string s] w fun e w' => e = .returned (.bool (pathB s)) ∧ Below w.heap.size w w' := by
 by_cases he : s.size = 0
 ·have HN := zh (pathB_empty (s := s) (List.eq_nil_of_length_eq_zero (by rw [← Lib.size_eq]; exact he)))
  have hl : s.toList = [] := by rw [Lib.toList_data]; exact List.eq_nil_of_length_eq_zero (by rw [← Lib.size_eq]; exact he)
  clear he
  go_enter Tryz.func119, Tryz.ntmps119
  go_wp2_with fail
  go_ret
  exact ⟨by rw [HN.out]; rfl, Below.refl _ _⟩
 have hl : (s.toList == []) = false := by
  rw [Lib.toList_data, beq_eq_false_iff_ne]; intro e; apply he; rw [Lib.size_eq, e]; rfl
 have hl2 : ¬ s.toList = [] := by simpa using hl
 by_cases h200 : 200 < s.size
 ·have HN : Hid (pathB s = false) := by show _ = _; unfold pathB; rw [decide_eq_false (by omega)]; rfl
  have hd : decide ((s.size : Int) > 200) = true := by simp; omega
  go_enter Tryz.func119, Tryz.ntmps119
  go_wp2_with fail
  go_ret
  exact ⟨by rw [HN.out]; rfl, Below.refl _ _⟩
 have hd : decide ((s.size : Int) > 200) = false := by simp; omega
 have hsz : s.size ≤ 200 := by omega
 have HSP := zh (fun w => split_anyS s 47 w (by omega))
 have hlen := seg_len s
 obtain ⟨N, hN⟩ : ∃ N, Lib.countB s (oneB 47) = N := ⟨_, rfl⟩
 have hle := Lib.countB_le (oneB 47) (Nat.le_refl _) s.size s (Nat.le_refl _)
 rw [seg_one, hN] at HSP
 rw [hN] at hlen hle
 have HL := zh hlen
 have HPO : Hid (∀ (h : Lib.indexByte s.data.toList 0 < 0), pathB s = (seg s).all goodB) := fun h => pathB_of s hsz h
 have HPF : Hid (∀ j, j < s.size → s.data.toList.getD j 0 = 0 → pathB s = false) := fun j hj h => by
  unfold pathB; rw [decide_eq_false (zero_in (by rw [← Lib.size_eq]; exact hj) h), Bool.and_false]; rfl
 have HLS := zh (Lib.size_eq s)
 clear hN hlen he h200
 go_enter Tryz.func119, Tryz.ntmps119
 go_wp2_with fail
 go_loopw [3] (fun i wr => ∃ k : Nat, k ≤ s.size ∧ i = .int .i64 k ∧ Hid (∀ j, j < k → s.data.toList.getD j 0 ≠ 0) ∧ Hid (wr = w)) (fun i _ => s.size - (intOf i).toNat)
 case atStart => exact ⟨0, Nat.zero_le _, rfl, fun j hj => absurd hj (by omega), rfl⟩
 case round =>
  obtain ⟨k, hk, rfl, HZ, hw⟩ := hrel
  obtain rfl := hw.out
  clear hw
  by_cases hlt : k < s.size
  ·have hd1 : decide ((k : Int) < (s.size : Int)) = true := by simp; omega
   have p1 : (0 : Int) ≤ (k : Int) := by omega
   have p2 : (k : Int) < (s.size : Int) := by omega
   have HG := zh (getD_byteP s k hlt)
   by_cases hz : s[k] = 0
   ·have t0 : ((s[k].toNat : Int) == 0) = true := by rw [hz]; rfl
    have HX := zh (HPF.out k hlt (by rw [HG.out, hz]))
    clear hz
    go_wp2_with fail
    go_ret
    exact ⟨by rw [HX.out]; rfl, Below.refl _ _⟩
   ·have t0 : ((s[k].toNat : Int) == 0) = false := by
     rw [beq_eq_false_iff_ne]; intro e; apply hz; apply UInt8.toNat_inj.1; show s[k].toNat = 0; omega
    have HZ2 : Hid (∀ j, j < k + 1 → s.data.toList.getD j 0 ≠ 0) := fun j hj => by
     by_cases h : j < k
     ·exact HZ.out j h
     ·obtain rfl : j = k := by omega
      rw [HG.out]; exact hz
    clear hz
    go_wp2_with fail
    go_roundw
    case rel => exact ⟨k + 1, by omega, by go_num, HZ2, by first | rfl | exact trivial⟩
    case measure => simp [intOf]; omega
  ·obtain rfl : k = s.size := by omega
   have hd1 : decide ((s.size : Int) < (s.size : Int)) = false := by simp
   have HA := zh (HPO.out (zero_free (fun j hj => HZ.out j (by rw [HLS.out]; exact hj))))
   clear HZ HPO HPF
   go_wp2_with fail
   refine (HSP.out _).mono ?_
   rintro e w1 ⟨rfl, hw1⟩
   have hrow : w1.heap[wr.heap.size]? = some (.cells ((seg s).map Value.string).toArray 9 (0, 0)) := by rw [hw1]; exact heap_alloc_new wr _
   have HB1 : Hid (Below wr.heap.size wr w1) := by show Below _ _ _; rw [hw1]; exact (Below.refl _ _).alloc (Nat.le_refl _) _
   have hcell : ∀ j, j < N + 1 → w1.cell? ⟨wr.heap.size, j, none⟩ = some (.string ((seg s).getD j ByteArray.empty)) := fun j hj => by
    rw [cell_of_row w1 _ j _ _ _ hrow]; simp [HL.out, hj]
   have HCL := zh hcell
   clear hw1 hrow hcell
   go_wp2_with fail
   go_loopw [5] (fun i wx => ∃ k : Nat, k ≤ N + 1 ∧ i = .int .i64 k ∧ Hid (((seg s).take k).all goodB = true) ∧ Hid (wx = w1)) (fun i _ => N + 1 - (intOf i).toNat)
   case atStart => exact ⟨0, Nat.zero_le _, rfl, rfl, rfl⟩
   case round =>
    obtain ⟨k, hk, rfl, HG, hw⟩ := hrel
    obtain rfl := hw.out
    clear hw
    by_cases hlt : k < N + 1
    ·have hd2 : decide ((k : Int) < (N : Int) + 1) = true := by simp; omega
     have p1 : (0 : Int) ≤ (k : Int) := by omega
     have p2 : (k : Int) < (N : Int) + 1 := by omega
     have c1 := HCL.out k hlt
     have HSN : Hid (((seg s).take (k + 1)).all goodB = (((seg s).take k).all goodB && goodB ((seg s).getD k ByteArray.empty))) := by
      show _ = _
      have hkl : k < (seg s).length := by rw [HL.out]; exact hlt
      rw [List.take_succ_eq_append_getElem hkl, List.all_append, List.getD_eq_getElem?_getD, List.getElem?_eq_getElem hkl]; simp
     have HBAD : Hid (goodB ((seg s).getD k ByteArray.empty) = false → (seg s).all goodB = false) := fun h => by
      have hkl : k < (seg s).length := by rw [HL.out]; exact hlt
      rw [List.all_eq_false]
      refine ⟨(seg s)[k], List.getElem_mem hkl, ?_⟩
      rw [List.getD_eq_getElem?_getD, List.getElem?_eq_getElem hkl] at h
      simp at h
      rw [h]; simp
     obtain ⟨x, hx⟩ : ∃ x, (seg s).getD k ByteArray.empty = x := ⟨_, rfl⟩
     rw [hx] at c1 HSN HBAD
     clear hx
     by_cases hg : goodB x = true
     ·obtain ⟨g1, g2, g3⟩ := goodB_parts hg
      have HGN : Hid (((seg s).take (k + 1)).all goodB = true) := by show _ = _; rw [HSN.out, HG.out, hg]; rfl
      clear hg
      go_wp2_with fail
      go_roundw
      case rel => exact ⟨k + 1, by omega, by go_num, HGN, by first | rfl | exact trivial⟩
      case measure => simp [intOf]; omega
     ·have hg : goodB x = false := by simpa using hg
      have HX : Hid (pathB s = false) := by show _ = _; rw [HA.out]; exact HBAD.out hg
      have hcs : (x.toList == []) = true ∨ ((x.toList == []) = false ∧ (x.toList == [46]) = true) ∨ ((x.toList == []) = false ∧ (x.toList == [46]) = false ∧ (x.toList == [46, 46]) = true) := by
       unfold goodB at hg
       cases h1 : (x.toList == []) <;> cases h2 : (x.toList == [46]) <;> cases h3 : (x.toList == [46, 46]) <;> simp_all
      clear hg
      rcases hcs with g1 | ⟨g1, g2⟩ | ⟨g1, g2, g3⟩
      all_goals
       go_wp2_with fail
       go_ret
       exact ⟨by rw [HX.out]; rfl, HB1.out⟩
    ·obtain rfl : k = N + 1 := by omega
     have hd2 : decide ((N : Int) + 1 < (N : Int) + 1) = false := by simp
     have hcast : ((N + 1 : Nat) : Int) = (N : Int) + 1 := by omega
     have HX : Hid (pathB s = true) := by
      show _ = _; rw [HA.out]
      have := HG.out
      rw [List.take_of_length_le (by rw [HL.out]; exact Nat.le_refl _)] at this
      exact this
     go_wp2_with fail
     go_ret
     exact ⟨by rw [HX.out]; rfl, HB1.out⟩
end Go.Proofs.YtecllfbadciaoaaGreatDoor
