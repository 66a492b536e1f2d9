/-
  Versions: laws on strings' rows (many appended, cut, the empty literal), and the walks of the reference's Sort, Latest and Same.
-/
import Derived.Test.YtceeilojcifgeaaGreatDoorGc
import Derived.Test.YtceeilojcifgeaaGreatDoorVorG
import Derived.Test.YtceeilojcifgeaaGreatDoorVorF
import Derived.Laws.AppendOwnNone
import Derived.Deep.RegionHeld3
import Derived.Deep.RegionWith
import Derived.Test.YtceeilojcifgeaaGreatDoorVsoD
import Derived.WalkSmall
import Derived.BigRegion
import Derived.BigQuiet
namespace Go.Proofs.YtceeilojcifgeaaGreatDoor
open Go.RowKit Go.Sort

/-- where x[k:] begins, at one cell -/
def slV (sp : Option Addr) (k cap : Nat) : Option Addr := if cap = k then sp else sp.map (·.add k)
theorem slV_none (k cap : Nat) (sp : Option Addr) : (slV sp k cap = none) = (sp = none) := by
  unfold slV; split
  · rfl
  · simp
theorem OwnS.cap {w : World} {base n cap : Nat} {sp : Option Addr} {l : List ByteArray} (h : OwnS w base (.slice sp n cap) l) : (sp = none → cap = 0) ∧ n ≤ cap := by
  obtain ⟨_, ⟨e, h0⟩ | ⟨g, cap', cur, e, _, _, hle, _⟩⟩ := h
  · injection e with e1 e2 e3; exact ⟨fun _ => e3, by omega⟩
  · injection e with e1 e2 e3
    subst e1 e2 e3
    exact ⟨fun h => (by cases h), hle⟩
theorem OwnS.empty (w : World) (b base : Nat) (h : w.heap[b]? = some (.cells #[] 9 (0, 0))) (hb : base ≤ b) : OwnS w base (.slice (some ⟨b, 0, none⟩) 0 0) [] :=
  ⟨rfl, .inr ⟨b, 0, #[], rfl, hb, h, Nat.le_refl _, by unfold maxLen; omega, rfl, rfl⟩⟩
theorem StrR.take {w : World} {sp : Option Addr} {n k : Nat} {l : List ByteArray} (h : StrR w sp n l) (hk : k ≤ n) : StrR w sp k (l.take k) :=
  ⟨by rw [List.length_take, h.len]; omega, fun hp => by
    obtain ⟨b, off, e, hlt, hc⟩ := h.cells (by omega)
    refine ⟨b, off, e, hlt, fun i v hi => hc i v ?_⟩
    rw [List.getElem?_take] at hi
    split at hi
    · exact hi
    · cases hi⟩
theorem StrR.cut {w : World} {sp : Option Addr} {n k cap : Nat} {l : List ByteArray} (h : StrR w sp n l) (hk : k ≤ n) (hc : n ≤ cap) : StrR w (slV sp k cap) (n - k) (l.drop k) :=
  ⟨by rw [List.length_drop, h.len], fun hp => by
    obtain ⟨b, off, rfl, hlt, hr⟩ := h.cells (by omega)
    refine ⟨b, off + k, ?_, hlt, fun i v hi => ?_⟩
    · unfold slV; rw [if_neg (by omega)]; simp only [Option.map_some, Addr.add_mid]
    · rw [List.getElem?_drop] at hi
      have := hr (k + i) v hi
      rw [show off + (k + i) = off + k + i by omega] at this
      exact this⟩
theorem StrR.one {w : World} {b : Nat} {x : ByteArray} (h : w.heap[b]? = some (.cells #[.string x] 9 (0, 0))) : StrR w (some ⟨b, 0, none⟩) 1 [x] :=
  ⟨rfl, fun _ => ⟨b, 0, rfl, (Array.getElem?_eq_some_iff.1 h).1, fun i v hi => by
    obtain ⟨rfl, rfl⟩ : i = 0 ∧ x = v := by
      rcases i with _ | i
      · exact ⟨rfl, by simpa using hi⟩
      · simp at hi
    rw [cell_of_row w b 0 _ _ _ h]; rfl⟩⟩
theorem infoS1 : (Tryz.prog.info? 9).map (·.size) = some 1 := by kernel_rfl
set_option maxRecDepth 100000 in
theorem sizeS1 (w : World) : (sizeOf 9).run Tryz.prog w = .ok 1 w := by
  have h := infoS1
  cases hi : Tryz.prog.info? 9 with
  | none => rw [hi] at h; cases h
  | some i => rw [hi] at h; injection h with h; simp [sizeOf, typeInfo, hi, h]
theorem run_fromS (w : World) (sp : Option Addr) (n cap k : Nat) (hk : k ≤ n) :
    (Instr.slice 29 (.slice sp n cap) (some (.int .i64 k)) none none).run Tryz.prog w = .ok (.slice (slV sp k cap) (n - k) (cap - k)) w := by
  have h1 : (0 : Int) ≤ (k : Int) ∧ (k : Int) ≤ (n : Int) := ⟨by omega, by omega⟩
  simp [Instr.slice, Instr.sliceBounds, Instr.sliceBound, asIntOf, run_underlying Tryz.underlying29, sizeS1, hk, slV]
theorem run_toS (w : World) (sp : Option Addr) (n cap k : Nat) (hk : k ≤ n) (hc : n ≤ cap) :
    (Instr.slice 29 (.slice sp n cap) none (some (.int .i64 k)) none).run Tryz.prog w = .ok (.slice (slV sp 0 cap) k cap) w := by
  have h1 : (0 : Int) ≤ (k : Int) ∧ (k : Int) ≤ (n : Int) ∧ (k : Int) ≤ (cap : Int) := ⟨by omega, by omega, by omega⟩
  have h2 : k ≤ cap := by omega
  simp [Instr.slice, Instr.sliceBounds, Instr.sliceBound, asIntOf, run_underlying Tryz.underlying29, sizeS1, hk, h2, slV]
theorem slV_zero (sp : Option Addr) (cap : Nat) : slV sp 0 cap = sp := by
  unfold slV; split
  · rfl
  · cases sp with
    | none => rfl
    | some a => simp [Addr.add]
theorem yieldsIf_fromS {ops : Array Oper} {S : World → Prop} {op : Oper} {a : Act} (hw : Region.wanted op (yielded ops a.tmps) = true) (x lo : Operand) (ho : op.op = .slice 29 x (some lo) none none)
    (sp : Option Addr) (n cap k : Nat) (hx : a.eval x = .slice sp n cap) (hlo : a.eval lo = .int .i64 k) (hk : k ≤ n) : YieldsIf Tryz.prog ops S op (.slice (slV sp k cap) (n - k) (cap - k)) a :=
  .inl ⟨hw, fun w _ => by
    unfold execOp
    simp only [ho, Option.map_some, Option.map_none, hx, hlo]
    have := run_fromS w sp n cap k hk
    simp [Instr.sliceAt, run_underlying Tryz.underlying29, this]⟩
theorem yieldsIf_toS {ops : Array Oper} {S : World → Prop} {op : Oper} {a : Act} (hw : Region.wanted op (yielded ops a.tmps) = true) (x hi : Operand) (ho : op.op = .slice 29 x none (some hi) none)
    (sp : Option Addr) (n cap k : Nat) (hx : a.eval x = .slice sp n cap) (hlo : a.eval hi = .int .i64 k) (hk : k ≤ n) (hc : n ≤ cap) : YieldsIf Tryz.prog ops S op (.slice sp k cap) a :=
  .inl ⟨hw, fun w _ => by
    unfold execOp
    simp only [ho, Option.map_some, Option.map_none, hx, hlo]
    have := run_toS w sp n cap k hk hc
    rw [slV_zero] at this
    simp [Instr.sliceAt, run_underlying Tryz.underlying29, this]⟩
theorem slice0S (w : World) : (Instr.buildSlice 29 0 #[]).run Tryz.prog w = .ok (.slice (some ⟨w.heap.size, 0, none⟩) 0 0) (w.alloc (.cells #[] 9)) := by kernel_rfl
theorem slice1S (w : World) (x : ByteArray) : (Instr.buildSlice 29 1 #[(0, .string x)]).run Tryz.prog w = .ok (.slice (some ⟨w.heap.size, 0, none⟩) 1 1) (w.alloc (.cells #[.string x] 9)) := by kernel_rfl
theorem wp_slice_eqV {P : Program} {o : Oper} {a : Act} {w : World} {K : Act → World → Prop} {Q : Exit → Act → World → Prop} (t : TypeId) (k : Nat) (parts : List (Nat × Operand)) (ho : o.op = .buildSlice t k parts.toArray)
    (vs : List (Nat × Value)) (hv : (parts.map fun (i, x) => (i, a.eval x)) = vs) (v : Value) (w' : World) (hrun : (Instr.buildSlice t k vs.toArray).run P w = .ok v w') (h : K (a.put o.dst v) w') : o.wp P a w K Q := by
  unfold Oper.wp execOp
  simp only [ho, Sem.run_bind, List.map_toArray, hv, hrun, Result.andThen_ok]
  exact h
theorem grownBy_refl (w : World) (r : Option Nat) : w.grownBy w r := ⟨rfl, rfl, rfl, Nat.le_refl _, fun _ _ _ => rfl⟩
set_option maxRecDepth 100000 in
/-- append(own, x...) -/
theorem wp_appends_sv {o : Oper} {a : Act} {w : World} {K : Act → World → Prop} {Q : Exit → Act → World → Prop} (s x : Operand)
    (ho : o.op = .call { callee := .builtin .append, args := #[s, x], argTypes := #[29, 29] }) (base : Nat) (v : Value) (l : List ByteArray) (n : Nat) (hn : n = l.length) (hs : a.eval s = v) (hown : OwnS w base v l)
    (sp : Option Addr) (m c : Nat) (hx : a.eval x = .slice sp m c) {l2 : List ByteArray} (hsrc : StrR w sp m l2) (hnil : sp = none → c = 0) (hlen : n ≤ 1000000) (hm : m ≤ 1000000) (hbase : base ≤ w.heap.size)
    (h : ∀ sp' cap w', Hid (OwnS w' base (.slice sp' (n + m) cap) (l ++ l2)) → Hid (Below base w w') → Hid (w.grownBy w' v.ownBlock) → K (a.put o.dst (.slice sp' (n + m) cap)) w') : o.wp Tryz.prog a w K Q := by
  subst hn
  obtain ⟨i0, hi0, hz0, hz1, hz2⟩ := info_parts infoStr3
  have hl2 := hsrc.len
  cases sp with
  | none =>
    have hm0 : m = 0 := by
      by_cases h0 : 0 < m
      · obtain ⟨_, _, e, _⟩ := hsrc.cells h0; cases e
      · omega
    have hn2 : l2 = [] := List.eq_nil_of_length_eq_zero (by omega)
    subst hn2 hm0
    have hc0 := hnil rfl
    subst hc0
    have hrun := run_append_owned_none (P := Tryz.prog) (w := w) base 29 o.type 9 i0 1 Tryz.underlying29 hi0 v l.length _ hown
    obtain ⟨sp', cap', rfl⟩ := own_shapeG hown
    unfold Oper.wp
    simp [execOp, ho, resolve, invoke, builtin, hs, hx, hrun, Result.andThen]
    exact h sp' cap' w (by show OwnS _ _ _ _; rw [List.append_nil]; exact hown) (Below.refl _ _) (grownBy_refl _ _)
  | some ad =>
    have hcells : ∀ j u, (l2.map Value.string)[j]? = some u → w.cell? (ad.add j) = some u := by
      intro j u hj
      have hlt := (List.getElem?_eq_some_iff.1 hj).1
      rw [List.length_map] at hlt
      obtain ⟨b, off, e, _, hr⟩ := hsrc.cells (by omega)
      injection e with e; subst e
      rw [Addr.add_mid]
      rw [List.getElem?_map, List.getElem?_eq_getElem hlt] at hj
      injection hj with hj
      rw [← hj]
      exact hr j _ (List.getElem?_eq_getElem hlt)
    refine wp_append_own w s x _ ho base _ i0 _ 1 16 Tryz.underlying29 hi0 hz0 hz1 hz2 rfl (by decide) v l.length _ hs hown ad m c (l2.map Value.string) hx (by rw [List.length_map]; omega) hcells ?_ (by unfold maxLen; omega) (by omega) hbase ?_
    · intro u hu
      obtain ⟨z, _, rfl⟩ := List.mem_map.1 hu
      rfl
    · intro v' w' h1 h2 _
      obtain ⟨sp', cap, rfl⟩ := own_shapeG h1
      refine h sp' cap w' ?_ ((Below.refl base w).grown h2 hbase (own_baseG hown)) h2
      show OwnS _ _ _ _
      unfold OwnS
      rw [List.length_append, hl2, List.map_append]
      exact h1
end Go.Proofs.YtceeilojcifgeaaGreatDoor

namespace Go.Proofs.YtceeilojcifgeaaGreatDoor
open Go.RowKit Go.Sort

theorem refV_snoc (ks : List KV) (x : KV) : refV (ks ++ [x]) = insV (refV ks) x := by unfold refV; rw [List.foldl_append]; rfl
theorem insV_at {a b : List KV} {x : KV} (ha : ∀ y ∈ a, cKV y x ≤ 0) (hb : ∀ y, b.head? = some y → 0 < cKV y x) : insV (a ++ b) x = (a ++ [x]) ++ b := by
  have ha' : ∀ y ∈ a, decide (cKV y x ≤ 0) = true := fun y hy => decide_eq_true (ha y hy)
  have hbt : b.takeWhile (fun y => decide (cKV y x ≤ 0)) = [] ∧ b.dropWhile (fun y => decide (cKV y x ≤ 0)) = b := by
    cases b with
    | nil => exact ⟨rfl, rfl⟩
    | cons y b => have := hb y rfl
                  have h2 : ¬ cKV y x ≤ 0 := by omega
                  simp [h2]
  unfold insV
  rw [List.takeWhile_append_of_pos ha', List.dropWhile_append_of_pos ha', hbt.1, hbt.2]; simp
theorem insV_mem {out : List KV} {x y : KV} (h : y ∈ insV out x) : y = x ∨ y ∈ out := by
  unfold insV at h
  rcases List.mem_append.1 h with h | h
  · exact .inr ((List.takeWhile_sublist _).mem h)
  · rcases List.mem_cons.1 h with h | h
    · exact .inl h
    · exact .inr ((List.dropWhile_sublist _).mem h)
theorem insV_len (out : List KV) (x : KV) : (insV out x).length = out.length + 1 := by
  have h : (out.takeWhile (fun y => decide (cKV y x ≤ 0)) ++ out.dropWhile (fun y => decide (cKV y x ≤ 0))).length = out.length := by rw [List.takeWhile_append_dropWhile]
  unfold insV
  rw [List.length_append] at h
  rw [List.length_append, List.length_cons]; omega
def GoodV (s : Int) (out : List KV) : Prop := ∀ y ∈ out, y.2 = keyB s y.1 ∧ valB s y.1.data.toList = true
theorem GoodV.ins {s : Int} {out : List KV} {x : ByteArray} (h : GoodV s out) (hx : valB s x.data.toList = true) : GoodV s (insV out (x, keyB s x)) := fun y hy => by
  rcases insV_mem hy with rfl | hy
  · exact ⟨rfl, hx⟩
  · exact h y hy
theorem ord_kv {s : Int} {a b : ByteArray} (hs : schB s = true) (ha : valB s a.data.toList = true) (hb : valB s b.data.toList = true) (w : World) :
    Calls Tryz.prog 13 #[.int .i64 s, .string a, .string b] w fun e w' => e = .returned (.int .i64 (cKV (a, keyB s a) (b, keyB s b))) ∧ Below w.heap.size w w' := by
  obtain ⟨la, rfl⟩ := bs_eq a
  obtain ⟨lb, rfl⟩ := bs_eq b
  rw [bs_data] at ha hb
  have h := rOrd_any s la lb w hs ha hb
  have e : lx (keyR s la).1 (keyR s lb).1 = cKV (bs la, keyB s (bs la)) (bs lb, keyB s (bs lb)) := by
    unfold cKV keyB
    dsimp only
    rw [bs_data, bs_data, bs_data, bs_data]
  rw [e] at h; exact h
theorem valid_kv (s : Int) (x : ByteArray) (w : World) :
    Calls Tryz.prog 23 #[.int .i64 s, .string x] w fun e w' => e = .returned (.bool (valB s x.data.toList)) ∧ Below w.heap.size w w' := by
  obtain ⟨la, rfl⟩ := bs_eq x
  rw [bs_data, valB_eq]
  exact rValidL_any s la w
def RsP (s : Int) (l : List ByteArray) (w : World) (e : Ending) (w' : World) : Prop :=
  ∃ sp n cap, e = .returned (.tuple #[.slice sp n cap, .int .i64 (errW s l)]) ∧ (errW s l = 0 → n = l.length ∧ OwnS w' w.heap.size (.slice sp n cap) ((refV (kvs s l)).map (·.1))) ∧ (errW s l ≠ 0 → sp = none ∧ n = 0 ∧ cap = 0) ∧ Below w.heap.size w w'
set_option maxRecDepth 100000 in
set_option maxHeartbeats 4000000 in
theorem rsort_any (s : Int) (sp : Option Addr) (n cap : Nat) (l : List ByteArray) (w : World) (hl : StrR w sp n l) (hn : n ≤ 1000) :
    Calls Tryz.prog 17 #[.int .i64 s, .slice sp n cap] w (RsP s l w) := by
  have HL := Lib.hid hl; clear hl
  have HSC := Lib.hid (fun w => rScheme_any s w)
  cases hs : schB s
  · rw [hs] at HSC
    have HE := Lib.hid (show errW s l = 14 by unfold errW; rw [hs]; rfl)
    go_enter Tryz.func17, Tryz.ntmps17
    go_wp2_with fail
    refine (HSC.out _).mono ?_
    rintro e w' ⟨rfl, rfl⟩
    go_wp2_with fail
    go_ret2
    exact ⟨none, 0, 0, by rw [HE.out]; rfl, fun h => absurd (HE.out.symm.trans h) (by decide), fun _ => ⟨rfl, rfl, rfl⟩, Below.refl _ _⟩
  · rw [hs] at HSC
    have HS := Lib.hid hs; clear hs
    go_enter Tryz.func17, Tryz.ntmps17
    go_wp2_with fail
    refine (HSC.out _).mono ?_
    rintro e w' ⟨rfl, rfl⟩
    go_wp2_with fail
    go_loopw [6, 7] (fun v i wr => ∃ (k c : Nat) (g : Option Addr) (outs : List KV), v = .slice g k c ∧ i = .int .i64 k ∧ k ≤ n ∧ Hid (outs.length = k ∧ outs = refV (kvs s (l.take k)) ∧ GoodV s outs ∧ (∀ x ∈ l.take k, valB s x.data.toList = true) ∧ OwnS wr w.heap.size (.slice g k c) (outs.map (·.1)) ∧ Below w.heap.size w wr)) (fun _ i _ => n - (intOf i).toNat)
    case atStart => exact ⟨0, 0, none, [], rfl, rfl, Nat.zero_le _, rfl, rfl, fun y hy => (by cases hy), fun x hx => by simp at hx, OwnS.nil _ _, Below.refl _ _⟩
    case round =>
      obtain ⟨k, c, g, outs, rfl, rfl, hk, H⟩ := hrel
      have HOL := Lib.hid H.out.1; have HOE := Lib.hid H.out.2.1; have HG := Lib.hid H.out.2.2.1; have HV := Lib.hid H.out.2.2.2.1; have HO := Lib.hid H.out.2.2.2.2.1; have HB := Lib.hid H.out.2.2.2.2.2
      clear H
      by_cases hlt : k < n
      · have hd : decide ((k : Int) < (n : Int)) = true := by simp; omega
        have p1 : (0 : Int) ≤ (k : Int) := by omega
        have p2 : (k : Int) < (n : Int) := by omega
        have HLW := Lib.hid (HL.out.below HB.out)
        obtain ⟨b1, o1, rfl, hb1, g1⟩ := HLW.out.cells (by omega)
        obtain ⟨x, hx⟩ : ∃ x, l[k]? = some x := ⟨l[k]'(by have := HL.out.len; omega), List.getElem?_eq_getElem _⟩
        have HXM := Lib.hid (List.mem_of_getElem? hx)
        have HTK := Lib.hid (show l.take (k + 1) = l.take k ++ [x] by rw [List.take_add_one, hx]; rfl)
        have x1 : wr.cell? ⟨b1, o1 + k, none⟩ = some (.string x) := g1 k x hx
        have HX1 := Lib.hid x1
        have HB1 := Lib.hid hb1
        have HVC := Lib.hid (fun w => valid_kv s x w)
        clear g1 hx hb1
        generalize hv : valB s x.data.toList = vb at *
        cases vb
        · have HE := Lib.hid (show errW s l = 1 by
            unfold errW; rw [HS.out, if_pos rfl, if_neg]
            unfold validAll; rw [List.all_eq_true]
            intro h; have := h x HXM.out; rw [hv] at this; cases this)
          go_wp2_with fail
          refine (HVC.out _).mono ?_
          rintro e w5 ⟨rfl, b5⟩
          have HB5 := Lib.hid (HB.out.trans (b5.mono HB.out.size))
          clear b5
          go_wp2_with fail
          go_ret2
          exact ⟨none, 0, 0, by rw [HE.out]; rfl, fun h => absurd (HE.out.symm.trans h) (by decide), fun _ => ⟨rfl, rfl, rfl⟩, HB5.out⟩
        · have HVX := Lib.hid hv; clear hv
          go_wp2_with fail
          refine (HVC.out _).mono ?_
          rintro e w5 ⟨rfl, b5⟩
          have HB5 := Lib.hid (HB.out.trans (b5.mono HB.out.size))
          have HX5 := Lib.hid ((b5.cell (p := ⟨b1, o1 + k, none⟩) HB1.out).trans HX1.out)
          have HBL5 := Lib.hid (Nat.lt_of_lt_of_le HB1.out b5.size)
          have HO5 := Lib.hid (HO.out.below b5)
          clear b5 x1 HX1 HB1 HLW HVC
          obtain ⟨xx, hxx⟩ : ∃ xx : KV, (x, keyB s x) = xx := ⟨_, rfl⟩
          have HXX := Lib.hid hxx
          have HXF := Lib.hid (show xx.1 = x by rw [← hxx])
          have HOC := Lib.hid (fun y (hy : y ∈ outs) w => show Calls Tryz.prog 13 #[.int .i64 s, .string y.1, .string x] w fun e w' => e = .returned (.int .i64 (cKV y xx)) ∧ Below w.heap.size w w' by
            have h1 := HG.out y hy
            have := ord_kv HS.out h1.2 HVX.out w
            rw [← h1.1, hxx] at this; exact this)
          clear hxx
          go_wp2_with fail
          go_loopw [8] (fun v wv => ∃ j : Nat, v = .int .i64 j ∧ j ≤ k ∧ Hid ((∀ y ∈ outs.take j, cKV y xx ≤ 0) ∧ Below w5.heap.size w5 wv)) (fun v _ => k - (intOf v).toNat)
          case atStart => exact ⟨0, rfl, Nat.zero_le _, fun y hy => by simp at hy, Below.refl _ _⟩
          case round =>
            obtain ⟨j, rfl, hj, H⟩ := hrel
            have HLE := Lib.hid H.out.1; have HBV := Lib.hid H.out.2
            clear H
            have HOV := Lib.hid (HO5.out.below HBV.out)
            have HXV := Lib.hid ((HBV.out.cell (p := ⟨b1, o1 + k, none⟩) HBL5.out).trans HX5.out)
            have HBLV := Lib.hid (Nat.lt_of_lt_of_le HBL5.out HBV.out.size)
            have q1 : (0 : Int) ≤ (j : Int) := by omega
            by_cases hgo : j < k
            · have hd : decide ((j : Int) < (k : Int)) = true := by simp; omega
              have q2 : (j : Int) < (k : Int) := by omega
              obtain ⟨y, hy⟩ : ∃ y, outs[j]? = some y := ⟨outs[j]'(by have := HOL.out; omega), List.getElem?_eq_getElem _⟩
              have HY := Lib.hid hy
              obtain ⟨b2, o2, rfl, hb2, g2⟩ := (HOV.out.r (by rw [List.length_map, HOL.out])).cells (by omega)
              have y1 : wr.cell? ⟨b2, o2 + j, none⟩ = some (.string y.1) := g2 j y.1 (by rw [List.getElem?_map, hy]; rfl)
              have hO := HOC.out y (List.mem_of_getElem? hy)
              have HKEEP := Lib.hid (fun (w' : World) (hb : Below wr.heap.size wr w') => And.intro ((hb.cell (p := ⟨b2, o2 + j, none⟩) hb2).trans y1) ((hb.cell (p := ⟨b1, o1 + k, none⟩) HBLV.out).trans HXV.out))
              clear hy g2 hb2 y1
              have HTJ := Lib.hid (show outs.take (j + 1) = outs.take j ++ [y] by rw [List.take_add_one, HY.out]; rfl)
              obtain ⟨ya, yb⟩ := y
              obtain ⟨cc, hcc⟩ : ∃ cc, cKV (ya, yb) xx = cc := ⟨_, rfl⟩
              rw [hcc] at hO
              dsimp only at hO HKEEP
              have HCC := Lib.hid hcc
              clear hcc
              by_cases hc : cc ≤ 0
              · have hcd : decide (cc ≤ 0) = true := by simp; omega
                have HLE2 := Lib.hid (show ∀ z ∈ outs.take (j + 1), cKV z xx ≤ 0 by
                  rw [HTJ.out]; intro z hz
                  rcases List.mem_append.1 hz with hz | hz
                  · exact HLE.out z hz
                  · rw [List.mem_singleton.1 hz, HCC.out]; exact hc)
                go_wp2_with fail
                go_region_held3 (fun w' => w'.cell? ⟨b2, o2 + j, none⟩ = some (.string ya) ∧ w'.cell? ⟨b1, o1 + k, none⟩ = some (.string x)) (first | exact HKEEP.out _ (Below.refl _ _) | exact HKEEP.out _ (Below.refl _ _).drew | exact HKEEP.out _ ((Below.refl _ _).drew.trans (by assumption))) ((go_at_call 13; (with_reducible refine (hO _).mono ?_); rintro e w4 ⟨rfl, hb4⟩))
                all_goals
                  have B4 := Lib.hid hb4; clear hb4 hO HKEEP
                  go_wp2_with fail
                  go_roundw
                  case rel => exact ⟨j + 1, by go_num, by omega, HLE2.out, HBV.out.trans (((Below.refl wr.heap.size wr).drew.trans B4.out).mono HBV.out.size)⟩
                  case measure => simp [intOf]; omega
              · have hcd : decide (cc ≤ 0) = false := by simp; omega
                have HINS := Lib.hid (show insV outs xx = (outs.take j ++ [xx]) ++ outs.drop j by
                  have := insV_at (a := outs.take j) (b := outs.drop j) (x := xx) HLE.out (fun y hy => by
                    rw [List.head?_drop, HY.out] at hy
                    injection hy with hy; rw [← hy, HCC.out]; omega)
                  rwa [List.take_append_drop] at this)
                go_wp2_with fail
                go_region_held3 (fun w' => w'.cell? ⟨b2, o2 + j, none⟩ = some (.string ya) ∧ w'.cell? ⟨b1, o1 + k, none⟩ = some (.string x)) (first | exact HKEEP.out _ (Below.refl _ _) | exact HKEEP.out _ (Below.refl _ _).drew | exact HKEEP.out _ ((Below.refl _ _).drew.trans (by assumption))) ((go_at_call 13; (with_reducible refine (hO _).mono ?_); rintro e w4 ⟨rfl, hb4⟩))
                all_goals
                  have B4 := Lib.hid hb4; clear hb4 hO HKEEP
                  go_wp2_with fail
                  have HBD := Lib.hid (HBV.out.trans (((Below.refl wr.heap.size wr).drew.trans B4.out).mono HBV.out.size))
                  generalize w4 = wd at *
                  have HOD := Lib.hid (HO5.out.below HBD.out)
                  have HXD := Lib.hid ((HBD.out.cell (p := ⟨b1, o1 + k, none⟩) HBL5.out).trans HX5.out)
                  have HBLD := Lib.hid (Nat.lt_of_lt_of_le HBL5.out HBD.out.size)
                  have HSO := Lib.hid (HOD.out.r (by rw [List.length_map, HOL.out]))
                  have HCP := Lib.hid HOD.out.cap
                  refine wp_region_held_drew (S := fun w' => Below wd.heap.size wd w') (by kernel_rfl) ((Below.refl _ wd).drew) (fun hHeld => ?_)
                  refine wpAnyH_take (i := 1) (oi := _) (v := ?v1n1) rfl (by kernel_rfl) (by kernel_rfl) (by kernel_rfl) (fun _ _ _ h => h) (Or.inl ⟨by rfl, ?hy1n1⟩) (by assumption) ?rest1n1
                  case hy1n1 =>
                    intro w' hSw
                    go_simp
                    try with_reducible rfl
                  try simp only [Act.put, List.getElem_toArray, List.getElem_cons_succ, List.getElem_cons_zero, List.setIfInBounds_toArray, List.set_cons_zero, List.set_cons_succ]
                  refine wpAnyH_take (i := 2) (oi := _) (v := ?v2n2) rfl (by kernel_rfl) (by kernel_rfl) (by kernel_rfl) (fun _ _ _ h => h) (Or.inl ⟨by rfl, ?hy2n2⟩) (by assumption) ?rest2n2
                  case hy2n2 =>
                    intro w' hSw
                    go_simp
                    try with_reducible rfl
                  try simp only [Act.put, List.getElem_toArray, List.getElem_cons_succ, List.getElem_cons_zero, List.setIfInBounds_toArray, List.set_cons_zero, List.set_cons_succ]
                  refine' wpAnyH_take (i := 3) (oi := _) (v := _) rfl (by kernel_rfl) (by kernel_rfl) (by kernel_rfl) (fun _ _ _ h => h) (yieldsIf_toS (by rfl) _ _ rfl (some ⟨b2, o2, none⟩) k c j rfl rfl (by omega) HCP.out.2) (by assumption) ?rest3n3
                  try simp only [Act.put, List.getElem_toArray, List.getElem_cons_succ, List.getElem_cons_zero, List.setIfInBounds_toArray, List.set_cons_zero, List.set_cons_succ]
                  refine wpAnyH_take (i := 5) (oi := _) (v := ?v5n4) rfl (by kernel_rfl) (by kernel_rfl) (by kernel_rfl) (fun _ _ _ h => h) (Or.inl ⟨by rfl, ?hy5n4⟩) (by assumption) ?rest5n4
                  case hy5n4 =>
                    intro w' hSw
                    go_simp
                    try with_reducible rfl
                  try simp only [Act.put, List.getElem_toArray, List.getElem_cons_succ, List.getElem_cons_zero, List.setIfInBounds_toArray, List.set_cons_zero, List.set_cons_succ]
                  refine wpAnyH_take (i := 6) (oi := _) (v := ?v6n5) rfl (by kernel_rfl) (by kernel_rfl) (by kernel_rfl) (fun _ _ _ h => h) (Or.inl ⟨by rfl, ?hy6n5⟩) (by assumption) ?rest6n5
                  case hy6n5 =>
                    intro w' hSw
                    go_simp
                    try with_reducible rfl
                  try simp only [Act.put, List.getElem_toArray, List.getElem_cons_succ, List.getElem_cons_zero, List.setIfInBounds_toArray, List.set_cons_zero, List.set_cons_succ]
                  refine wpAnyH_take (i := 7) (oi := _) (v := ?v7n6) rfl (by kernel_rfl) (by kernel_rfl) (by kernel_rfl) (fun _ _ _ h => h) (Or.inl ⟨by rfl, ?hy7n6⟩) (by assumption) ?rest7n6
                  case hy7n6 =>
                    intro w' hSw
                    go_simp
                    try with_reducible rfl
                  try simp only [Act.put, List.getElem_toArray, List.getElem_cons_succ, List.getElem_cons_zero, List.setIfInBounds_toArray, List.set_cons_zero, List.set_cons_succ]
                  refine wpAnyH_take (i := 8) (oi := _) (v := ?v8n7) rfl (by kernel_rfl) (by kernel_rfl) (by kernel_rfl) (fun _ _ _ h => h) (Or.inl ⟨by rfl, ?hy8n7⟩) (by assumption) ?rest8n7
                  case hy8n7 =>
                    intro w' hSw
                    have hc := (hSw.cell (p := ⟨b1, o1 + k, none⟩) HBLD.out).trans HXD.out
                    go_simp
                    try with_reducible rfl
                  try simp only [Act.put, List.getElem_toArray, List.getElem_cons_succ, List.getElem_cons_zero, List.setIfInBounds_toArray, List.set_cons_zero, List.set_cons_succ]
                  refine wpAnyH_take (i := 11) (oi := _) (v := ?v11n8) rfl (by kernel_rfl) (by kernel_rfl) (by kernel_rfl) (fun _ _ _ h => h) (Or.inl ⟨by rfl, ?hy11n8⟩) (by assumption) ?rest11n8
                  case hy11n8 =>
                    intro w' hSw
                    go_simp
                    try with_reducible rfl
                  try simp only [Act.put, List.getElem_toArray, List.getElem_cons_succ, List.getElem_cons_zero, List.setIfInBounds_toArray, List.set_cons_zero, List.set_cons_succ]
                  refine wpAnyH_take (i := 12) (oi := _) (v := ?v12n9) rfl (by kernel_rfl) (by kernel_rfl) (by kernel_rfl) (fun _ _ _ h => h) (Or.inl ⟨by rfl, ?hy12n9⟩) (by assumption) ?rest12n9
                  case hy12n9 =>
                    intro w' hSw
                    go_simp
                    try with_reducible rfl
                  try simp only [Act.put, List.getElem_toArray, List.getElem_cons_succ, List.getElem_cons_zero, List.setIfInBounds_toArray, List.set_cons_zero, List.set_cons_succ]
                  refine' wpAnyH_take (i := 13) (oi := _) (v := _) rfl (by kernel_rfl) (by kernel_rfl) (by kernel_rfl) (fun _ _ _ h => h) (yieldsIf_fromS (by rfl) _ _ rfl (some ⟨b2, o2, none⟩) k c j rfl rfl (by omega)) (by assumption) ?rest13n10
                  try simp only [Act.put, List.getElem_toArray, List.getElem_cons_succ, List.getElem_cons_zero, List.setIfInBounds_toArray, List.set_cons_zero, List.set_cons_succ]
                  refine wpAnyH_ready (rs := [0, 9]) (by kernel_rfl) (by simp) (AllReadyH.cons (o := _) rfl (fun K hK => ?_) (AllReadyH.cons (o := _) rfl (fun K hK => ?_) AllReadyH.nil))
                  · rw [if_pos (by rfl)]
                    refine wp_slice_eqV 29 0 [] rfl [] rfl _ _ (slice0S _) ?_
                    have HA0 := Lib.hid (heap_alloc_new wd.drew (.cells #[] 9))
                    have HBA := Lib.hid ((Below.refl wd.heap.size wd).drew.alloc (Nat.le_refl _) (.cells #[] 9))
                    have HSA := Lib.hid (World.size_alloc wd.drew (.cells #[] 9))
                    generalize World.alloc wd.drew _ = wA at *
                    have HOA := Lib.hid (OwnS.empty wA wd.heap.size wd.heap.size HA0.out (Nat.le_refl _))
                    refine hK.out _ _ HBA.out (fun hHeld => ?_)
                    clear hK K
                    try simp only [Act.put, List.getElem_toArray, List.getElem_cons_succ, List.getElem_cons_zero, List.setIfInBounds_toArray, List.set_cons_zero, List.set_cons_succ]
                    refine wpAnyH_ready (rs := [4, 9]) (by kernel_rfl) (by simp) (AllReadyH.cons (o := _) rfl (fun K hK => ?_) (AllReadyH.cons (o := _) rfl (fun K hK => ?_) AllReadyH.nil))
                    · rw [if_pos (by rfl)]
                      refine wp_appends_sv (.tmp 44) (.tmp 47) rfl wd.heap.size _ [] 0 rfl rfl HOA.out (some ⟨b2, o2, none⟩) j c rfl ((HSO.out.below HBA.out).take (by omega)) HCP.out.1 (by omega) (by omega) HBA.out.size ?_
                      intro sp4 c4 wC HOC4 HBC4 HGC4
                      have HBC := Lib.hid (HBA.out.trans HBC4.out)
                      refine hK.out _ _ HBC.out (fun hHeld => ?_)
                      clear hK K
                      try simp only [Act.put, List.getElem_toArray, List.getElem_cons_succ, List.getElem_cons_zero, List.setIfInBounds_toArray, List.set_cons_zero, List.set_cons_succ]
                      refine wpAnyH_ready (rs := [9]) (by kernel_rfl) (by simp) (AllReadyH.cons (o := _) rfl (fun K hK => ?_) AllReadyH.nil)
                      rw [if_pos (by rfl)]
                      refine wp_slice_eqV 29 1 [(0, .tmp 52)] rfl [(0, .string x)] rfl _ _ (slice1S _ x) ?_
                      have HR9 := Lib.hid (StrR.one (heap_alloc_new wC (.cells #[.string x] 9)))
                      have HBG := Lib.hid (HBC.out.alloc HBC.out.size (.cells #[.string x] 9))
                      have HOG := Lib.hid (HOC4.out.below ((Below.refl wC.heap.size wC).alloc (Nat.le_refl _) (.cells #[.string x] 9)))
                      generalize World.alloc wC _ = wG at *
                      refine hK.out _ _ HBG.out (fun hHeld => ?_)
                      clear hK K
                      try simp only [Act.put, List.getElem_toArray, List.getElem_cons_succ, List.getElem_cons_zero, List.setIfInBounds_toArray, List.set_cons_zero, List.set_cons_succ]
                      refine wpAnyH_ready (rs := [10]) (by kernel_rfl) (by simp) (AllReadyH.cons (o := _) rfl (fun K hK => ?_) AllReadyH.nil)
                      rw [if_pos (by rfl)]
                      refine wp_appends_sv (.tmp 48) (.tmp 53) rfl wd.heap.size _ ((outs.map (·.1)).take j) (0 + j) (by rw [List.length_take, List.length_map, HOL.out]; omega) rfl HOG.out (some ⟨wC.heap.size, 0, none⟩) 1 1 rfl HR9.out (fun h => by cases h) (by omega) (by omega) HBG.out.size ?_
                      intro sp5 c5 wE HOE5 HBE5 HGE5
                      have HBE := Lib.hid (HBG.out.trans HBE5.out)
                      refine hK.out _ _ HBE.out (fun hHeld => ?_)
                      clear hK K
                      try simp only [Act.put, List.getElem_toArray, List.getElem_cons_succ, List.getElem_cons_zero, List.setIfInBounds_toArray, List.set_cons_zero, List.set_cons_succ]
                      refine wpAnyH_ready (rs := [14]) (by kernel_rfl) (by simp) (AllReadyH.cons (o := _) rfl (fun K hK => ?_) AllReadyH.nil)
                      rw [if_pos (by rfl)]
                      refine wp_appends_sv (.tmp 54) (.tmp 57) rfl wd.heap.size _ (((outs.map (·.1)).take j) ++ [x]) (0 + j + 1) (by rw [List.length_append, List.length_take, List.length_map, HOL.out, List.length_singleton]; omega) rfl HOE5.out _ (k - j) (c - j) rfl ((HSO.out.below HBE.out).cut (by omega) HCP.out.2) (by rw [slV_none]; exact fun h => by rw [HCP.out.1 h]; simp) (by omega) (by omega) HBE.out.size ?_
                      intro sp6 c6 wF HOF6 HBF6 HGF6
                      have HBF := Lib.hid (HBE.out.trans HBF6.out)
                      refine hK.out _ _ HBF.out (fun hHeld => ?_)
                      clear hK K
                      try simp only [Act.put, List.getElem_toArray, List.getElem_cons_succ, List.getElem_cons_zero, List.setIfInBounds_toArray, List.set_cons_zero, List.set_cons_succ]
                      refine wpAnyH_take (i := 15) (oi := _) (v := ?v15n11) rfl (by kernel_rfl) (by kernel_rfl) (by kernel_rfl) (fun _ _ _ h => h) (Or.inl ⟨by rfl, ?hy15n11⟩) (by assumption) ?rest15n11
                      case hy15n11 =>
                        intro w' hSw
                        go_simp
                        try with_reducible rfl
                      try simp only [Act.put, List.getElem_toArray, List.getElem_cons_succ, List.getElem_cons_zero, List.setIfInBounds_toArray, List.set_cons_zero, List.set_cons_succ]
                      refine wpAnyH_done (by kernel_rfl) ?_ _
                      clear hHeld
                      have HOUT := Lib.hid (show (outs.map (·.1)).take j ++ [x] ++ (outs.map (·.1)).drop j = (insV outs xx).map (·.1) by rw [HINS.out, List.map_append, List.map_append, List.map_take, List.map_drop, ← HXF.out]; rfl)
                      have HKN := Lib.hid (show 0 + j + 1 + (k - j) = k + 1 by omega)
                      have HOZ := HOF6.out
                      rw [HOUT.out] at HOZ
                      have HOZ2 := Lib.hid (HOZ.base (Nat.le_trans HB5.out.size HBD.out.size))
                      have HBZ := Lib.hid (HB5.out.trans ((HBD.out.trans (HBF.out.mono HBD.out.size)).mono HB5.out.size))
                      clear HOZ HOF6
                      rw [HKN.out] at *
                      go_wp2_with fail
                      go_roundw
                      case rel =>
                        refine ⟨k + 1, c6, sp6, insV outs xx, by first | rfl | rw [show j + 1 + (k - j) = k + 1 by omega], by go_num, by omega, by rw [insV_len, HOL.out], ?_, ?_, ?_, HOZ2.out, HBZ.out⟩
                        · rw [HTK.out, HOE.out, ← HXX.out]; unfold kvs; rw [List.map_append]; exact (refV_snoc _ _).symm
                        · rw [← HXX.out]; exact HG.out.ins HVX.out
                        · rw [HTK.out]; intro y hy
                          rcases List.mem_append.1 hy with hy | hy
                          · exact HV.out y hy
                          · rw [List.mem_singleton.1 hy]; exact HVX.out
                      case measure => simp [intOf]; omega
                    · rw [if_pos (by rfl)]
                      refine wp_slice_eqV 29 1 [(0, .tmp 52)] rfl [(0, .string x)] rfl _ _ (slice1S _ x) ?_
                      have HR9 := Lib.hid (heap_alloc_new wA (.cells #[.string x] 9))
                      have HBC := Lib.hid (HBA.out.alloc HBA.out.size (.cells #[.string x] 9))
                      have HOB := Lib.hid (HOA.out.below ((Below.refl wA.heap.size wA).alloc (Nat.le_refl _) (.cells #[.string x] 9)))
                      generalize World.alloc wA _ = wB at *
                      refine hK.out _ _ HBC.out (fun hHeld => ?_)
                      clear hK K
                      try simp only [Act.put, List.getElem_toArray, List.getElem_cons_succ, List.getElem_cons_zero, List.setIfInBounds_toArray, List.set_cons_zero, List.set_cons_succ]
                      refine wpAnyH_ready (rs := [4]) (by kernel_rfl) (by simp) (AllReadyH.cons (o := _) rfl (fun K hK => ?_) AllReadyH.nil)
                      rw [if_pos (by rfl)]
                      refine wp_appends_sv (.tmp 44) (.tmp 47) rfl wd.heap.size _ [] 0 rfl rfl HOB.out (some ⟨b2, o2, none⟩) j c rfl ((HSO.out.below HBC.out).take (by omega)) HCP.out.1 (by omega) (by omega) HBC.out.size ?_
                      intro sp4 c4 wC HOC4 HBC4 HGC4
                      have HBG := Lib.hid (HBC.out.trans HBC4.out)
                      have HR10 := Lib.hid (StrR.one ((HGC4.out.block wA.heap.size (Array.getElem?_eq_some_iff.1 HR9.out).1 (by intro h; injection h with h; have h' : wA.heap.size = wd.heap.size := h; have h2 : wd.heap.size < wA.heap.size := (Array.getElem?_eq_some_iff.1 HA0.out).1; omega)).trans HR9.out))
                      refine hK.out _ _ HBG.out (fun hHeld => ?_)
                      clear hK K
                      try simp only [Act.put, List.getElem_toArray, List.getElem_cons_succ, List.getElem_cons_zero, List.setIfInBounds_toArray, List.set_cons_zero, List.set_cons_succ]
                      refine wpAnyH_ready (rs := [10]) (by kernel_rfl) (by simp) (AllReadyH.cons (o := _) rfl (fun K hK => ?_) AllReadyH.nil)
                      rw [if_pos (by rfl)]
                      refine wp_appends_sv (.tmp 48) (.tmp 53) rfl wd.heap.size _ ((outs.map (·.1)).take j) (0 + j) (by rw [List.length_take, List.length_map, HOL.out]; omega) rfl HOC4.out (some ⟨wA.heap.size, 0, none⟩) 1 1 rfl HR10.out (fun h => by cases h) (by omega) (by omega) HBG.out.size ?_
                      intro sp5 c5 wE HOE5 HBE5 HGE5
                      have HBE := Lib.hid (HBG.out.trans HBE5.out)
                      refine hK.out _ _ HBE.out (fun hHeld => ?_)
                      clear hK K
                      try simp only [Act.put, List.getElem_toArray, List.getElem_cons_succ, List.getElem_cons_zero, List.setIfInBounds_toArray, List.set_cons_zero, List.set_cons_succ]
                      refine wpAnyH_ready (rs := [14]) (by kernel_rfl) (by simp) (AllReadyH.cons (o := _) rfl (fun K hK => ?_) AllReadyH.nil)
                      rw [if_pos (by rfl)]
                      refine wp_appends_sv (.tmp 54) (.tmp 57) rfl wd.heap.size _ (((outs.map (·.1)).take j) ++ [x]) (0 + j + 1) (by rw [List.length_append, List.length_take, List.length_map, HOL.out, List.length_singleton]; omega) rfl HOE5.out _ (k - j) (c - j) rfl ((HSO.out.below HBE.out).cut (by omega) HCP.out.2) (by rw [slV_none]; exact fun h => by rw [HCP.out.1 h]; simp) (by omega) (by omega) HBE.out.size ?_
                      intro sp6 c6 wF HOF6 HBF6 HGF6
                      have HBF := Lib.hid (HBE.out.trans HBF6.out)
                      refine hK.out _ _ HBF.out (fun hHeld => ?_)
                      clear hK K
                      try simp only [Act.put, List.getElem_toArray, List.getElem_cons_succ, List.getElem_cons_zero, List.setIfInBounds_toArray, List.set_cons_zero, List.set_cons_succ]
                      refine wpAnyH_take (i := 15) (oi := _) (v := ?v15n12) rfl (by kernel_rfl) (by kernel_rfl) (by kernel_rfl) (fun _ _ _ h => h) (Or.inl ⟨by rfl, ?hy15n12⟩) (by assumption) ?rest15n12
                      case hy15n12 =>
                        intro w' hSw
                        go_simp
                        try with_reducible rfl
                      try simp only [Act.put, List.getElem_toArray, List.getElem_cons_succ, List.getElem_cons_zero, List.setIfInBounds_toArray, List.set_cons_zero, List.set_cons_succ]
                      refine wpAnyH_done (by kernel_rfl) ?_ _
                      clear hHeld
                      have HOUT := Lib.hid (show (outs.map (·.1)).take j ++ [x] ++ (outs.map (·.1)).drop j = (insV outs xx).map (·.1) by rw [HINS.out, List.map_append, List.map_append, List.map_take, List.map_drop, ← HXF.out]; rfl)
                      have HKN := Lib.hid (show 0 + j + 1 + (k - j) = k + 1 by omega)
                      have HOZ := HOF6.out
                      rw [HOUT.out] at HOZ
                      have HOZ2 := Lib.hid (HOZ.base (Nat.le_trans HB5.out.size HBD.out.size))
                      have HBZ := Lib.hid (HB5.out.trans ((HBD.out.trans (HBF.out.mono HBD.out.size)).mono HB5.out.size))
                      clear HOZ HOF6
                      rw [HKN.out] at *
                      go_wp2_with fail
                      go_roundw
                      case rel =>
                        refine ⟨k + 1, c6, sp6, insV outs xx, by first | rfl | rw [show j + 1 + (k - j) = k + 1 by omega], by go_num, by omega, by rw [insV_len, HOL.out], ?_, ?_, ?_, HOZ2.out, HBZ.out⟩
                        · rw [HTK.out, HOE.out, ← HXX.out]; unfold kvs; rw [List.map_append]; exact (refV_snoc _ _).symm
                        · rw [← HXX.out]; exact HG.out.ins HVX.out
                        · rw [HTK.out]; intro y hy
                          rcases List.mem_append.1 hy with hy | hy
                          · exact HV.out y hy
                          · rw [List.mem_singleton.1 hy]; exact HVX.out
                      case measure => simp [intOf]; omega
                  · rw [if_pos (by rfl)]
                    refine wp_slice_eqV 29 1 [(0, .tmp 52)] rfl [(0, .string x)] rfl _ _ (slice1S _ x) ?_
                    have HR9 := Lib.hid (heap_alloc_new wd.drew (.cells #[.string x] 9))
                    have HBA := Lib.hid ((Below.refl wd.heap.size wd).drew.alloc (Nat.le_refl _) (.cells #[.string x] 9))
                    generalize World.alloc wd.drew _ = wA at *
                    refine hK.out _ _ HBA.out (fun hHeld => ?_)
                    clear hK K
                    try simp only [Act.put, List.getElem_toArray, List.getElem_cons_succ, List.getElem_cons_zero, List.setIfInBounds_toArray, List.set_cons_zero, List.set_cons_succ]
                    refine wpAnyH_ready (rs := [0]) (by kernel_rfl) (by simp) (AllReadyH.cons (o := _) rfl (fun K hK => ?_) AllReadyH.nil)
                    rw [if_pos (by rfl)]
                    refine wp_slice_eqV 29 0 [] rfl [] rfl _ _ (slice0S _) ?_
                    have HA0 := Lib.hid (heap_alloc_new wA (.cells #[] 9))
                    have HBC := Lib.hid (HBA.out.alloc HBA.out.size (.cells #[] 9))
                    have HR8 := Lib.hid ((((Below.refl wA.heap.size wA).alloc (Nat.le_refl _) (.cells #[] 9)).block wd.heap.size (Array.getElem?_eq_some_iff.1 HR9.out).1).trans HR9.out)
                    generalize World.alloc wA _ = wB at *
                    have HOB := Lib.hid (OwnS.empty wB wA.heap.size wd.heap.size HA0.out HBA.out.size)
                    refine hK.out _ _ HBC.out (fun hHeld => ?_)
                    clear hK K
                    try simp only [Act.put, List.getElem_toArray, List.getElem_cons_succ, List.getElem_cons_zero, List.setIfInBounds_toArray, List.set_cons_zero, List.set_cons_succ]
                    refine wpAnyH_ready (rs := [4]) (by kernel_rfl) (by simp) (AllReadyH.cons (o := _) rfl (fun K hK => ?_) AllReadyH.nil)
                    rw [if_pos (by rfl)]
                    refine wp_appends_sv (.tmp 44) (.tmp 47) rfl wd.heap.size _ [] 0 rfl rfl HOB.out (some ⟨b2, o2, none⟩) j c rfl ((HSO.out.below HBC.out).take (by omega)) HCP.out.1 (by omega) (by omega) HBC.out.size ?_
                    intro sp4 c4 wC HOC4 HBC4 HGC4
                    have HBG := Lib.hid (HBC.out.trans HBC4.out)
                    have HR10 := Lib.hid (StrR.one ((HGC4.out.block wd.heap.size (Array.getElem?_eq_some_iff.1 HR8.out).1 (by intro h; injection h with h; have h' : wd.heap.size = wA.heap.size := h; have h2 : wd.heap.size < wA.heap.size := (Array.getElem?_eq_some_iff.1 HR9.out).1; omega)).trans HR8.out))
                    refine hK.out _ _ HBG.out (fun hHeld => ?_)
                    clear hK K
                    try simp only [Act.put, List.getElem_toArray, List.getElem_cons_succ, List.getElem_cons_zero, List.setIfInBounds_toArray, List.set_cons_zero, List.set_cons_succ]
                    refine wpAnyH_ready (rs := [10]) (by kernel_rfl) (by simp) (AllReadyH.cons (o := _) rfl (fun K hK => ?_) AllReadyH.nil)
                    rw [if_pos (by rfl)]
                    refine wp_appends_sv (.tmp 48) (.tmp 53) rfl wd.heap.size _ ((outs.map (·.1)).take j) (0 + j) (by rw [List.length_take, List.length_map, HOL.out]; omega) rfl HOC4.out (some ⟨wd.heap.size, 0, none⟩) 1 1 rfl HR10.out (fun h => by cases h) (by omega) (by omega) HBG.out.size ?_
                    intro sp5 c5 wE HOE5 HBE5 HGE5
                    have HBE := Lib.hid (HBG.out.trans HBE5.out)
                    refine hK.out _ _ HBE.out (fun hHeld => ?_)
                    clear hK K
                    try simp only [Act.put, List.getElem_toArray, List.getElem_cons_succ, List.getElem_cons_zero, List.setIfInBounds_toArray, List.set_cons_zero, List.set_cons_succ]
                    refine wpAnyH_ready (rs := [14]) (by kernel_rfl) (by simp) (AllReadyH.cons (o := _) rfl (fun K hK => ?_) AllReadyH.nil)
                    rw [if_pos (by rfl)]
                    refine wp_appends_sv (.tmp 54) (.tmp 57) rfl wd.heap.size _ (((outs.map (·.1)).take j) ++ [x]) (0 + j + 1) (by rw [List.length_append, List.length_take, List.length_map, HOL.out, List.length_singleton]; omega) rfl HOE5.out _ (k - j) (c - j) rfl ((HSO.out.below HBE.out).cut (by omega) HCP.out.2) (by rw [slV_none]; exact fun h => by rw [HCP.out.1 h]; simp) (by omega) (by omega) HBE.out.size ?_
                    intro sp6 c6 wF HOF6 HBF6 HGF6
                    have HBF := Lib.hid (HBE.out.trans HBF6.out)
                    refine hK.out _ _ HBF.out (fun hHeld => ?_)
                    clear hK K
                    try simp only [Act.put, List.getElem_toArray, List.getElem_cons_succ, List.getElem_cons_zero, List.setIfInBounds_toArray, List.set_cons_zero, List.set_cons_succ]
                    refine wpAnyH_take (i := 15) (oi := _) (v := ?v15n13) rfl (by kernel_rfl) (by kernel_rfl) (by kernel_rfl) (fun _ _ _ h => h) (Or.inl ⟨by rfl, ?hy15n13⟩) (by assumption) ?rest15n13
                    case hy15n13 =>
                      intro w' hSw
                      go_simp
                      try with_reducible rfl
                    try simp only [Act.put, List.getElem_toArray, List.getElem_cons_succ, List.getElem_cons_zero, List.setIfInBounds_toArray, List.set_cons_zero, List.set_cons_succ]
                    refine wpAnyH_done (by kernel_rfl) ?_ _
                    clear hHeld
                    have HOUT := Lib.hid (show (outs.map (·.1)).take j ++ [x] ++ (outs.map (·.1)).drop j = (insV outs xx).map (·.1) by rw [HINS.out, List.map_append, List.map_append, List.map_take, List.map_drop, ← HXF.out]; rfl)
                    have HKN := Lib.hid (show 0 + j + 1 + (k - j) = k + 1 by omega)
                    have HOZ := HOF6.out
                    rw [HOUT.out] at HOZ
                    have HOZ2 := Lib.hid (HOZ.base (Nat.le_trans HB5.out.size HBD.out.size))
                    have HBZ := Lib.hid (HB5.out.trans ((HBD.out.trans (HBF.out.mono HBD.out.size)).mono HB5.out.size))
                    clear HOZ HOF6
                    rw [HKN.out] at *
                    go_wp2_with fail
                    go_roundw
                    case rel =>
                      refine ⟨k + 1, c6, sp6, insV outs xx, by first | rfl | rw [show j + 1 + (k - j) = k + 1 by omega], by go_num, by omega, by rw [insV_len, HOL.out], ?_, ?_, ?_, HOZ2.out, HBZ.out⟩
                      · rw [HTK.out, HOE.out, ← HXX.out]; unfold kvs; rw [List.map_append]; exact (refV_snoc _ _).symm
                      · rw [← HXX.out]; exact HG.out.ins HVX.out
                      · rw [HTK.out]; intro y hy
                        rcases List.mem_append.1 hy with hy | hy
                        · exact HV.out y hy
                        · rw [List.mem_singleton.1 hy]; exact HVX.out
                    case measure => simp [intOf]; omega
            · obtain rfl : j = k := by omega
              have hd : decide ((j : Int) < (j : Int)) = false := by simp
              go_wp2_with fail
              go_quiet (fail)
              go_wp2_with fail
              have HBD := Lib.hid (HBV.out.trans ((show Below wr.heap.size wr (World.drewN wr nq) from ⟨rfl, rfl, rfl, Nat.le_refl _, fun _ _ => rfl⟩).mono HBV.out.size))
              have HINS := Lib.hid (show insV outs xx = (outs.take j ++ [xx]) ++ outs.drop j by
                have := insV_at (a := outs.take j) (b := outs.drop j) (x := xx) HLE.out (fun y hy => by
                  rw [List.head?_drop, List.getElem?_eq_none (by have := HOL.out; omega)] at hy; cases hy)
                rwa [List.take_append_drop] at this)
              generalize World.drewN wr nq = wd at *
              have HOD := Lib.hid (HO5.out.below HBD.out)
              have HXD := Lib.hid ((HBD.out.cell (p := ⟨b1, o1 + j, none⟩) HBL5.out).trans HX5.out)
              have HBLD := Lib.hid (Nat.lt_of_lt_of_le HBL5.out HBD.out.size)
              have HSO := Lib.hid (HOD.out.r (by rw [List.length_map, HOL.out]))
              have HCP := Lib.hid HOD.out.cap
              refine wp_region_held_drew (S := fun w' => Below wd.heap.size wd w') (by kernel_rfl) ((Below.refl _ wd).drew) (fun hHeld => ?_)
              refine wpAnyH_take (i := 1) (oi := _) (v := ?v1n14) rfl (by kernel_rfl) (by kernel_rfl) (by kernel_rfl) (fun _ _ _ h => h) (Or.inl ⟨by rfl, ?hy1n14⟩) (by assumption) ?rest1n14
              case hy1n14 =>
                intro w' hSw
                go_simp
                try with_reducible rfl
              try simp only [Act.put, List.getElem_toArray, List.getElem_cons_succ, List.getElem_cons_zero, List.setIfInBounds_toArray, List.set_cons_zero, List.set_cons_succ]
              refine wpAnyH_take (i := 2) (oi := _) (v := ?v2n15) rfl (by kernel_rfl) (by kernel_rfl) (by kernel_rfl) (fun _ _ _ h => h) (Or.inl ⟨by rfl, ?hy2n15⟩) (by assumption) ?rest2n15
              case hy2n15 =>
                intro w' hSw
                go_simp
                try with_reducible rfl
              try simp only [Act.put, List.getElem_toArray, List.getElem_cons_succ, List.getElem_cons_zero, List.setIfInBounds_toArray, List.set_cons_zero, List.set_cons_succ]
              refine' wpAnyH_take (i := 3) (oi := _) (v := _) rfl (by kernel_rfl) (by kernel_rfl) (by kernel_rfl) (fun _ _ _ h => h) (yieldsIf_toS (by rfl) _ _ rfl g j c j rfl rfl (by omega) HCP.out.2) (by assumption) ?rest3n16
              try simp only [Act.put, List.getElem_toArray, List.getElem_cons_succ, List.getElem_cons_zero, List.setIfInBounds_toArray, List.set_cons_zero, List.set_cons_succ]
              refine wpAnyH_take (i := 5) (oi := _) (v := ?v5n17) rfl (by kernel_rfl) (by kernel_rfl) (by kernel_rfl) (fun _ _ _ h => h) (Or.inl ⟨by rfl, ?hy5n17⟩) (by assumption) ?rest5n17
              case hy5n17 =>
                intro w' hSw
                go_simp
                try with_reducible rfl
              try simp only [Act.put, List.getElem_toArray, List.getElem_cons_succ, List.getElem_cons_zero, List.setIfInBounds_toArray, List.set_cons_zero, List.set_cons_succ]
              refine wpAnyH_take (i := 6) (oi := _) (v := ?v6n18) rfl (by kernel_rfl) (by kernel_rfl) (by kernel_rfl) (fun _ _ _ h => h) (Or.inl ⟨by rfl, ?hy6n18⟩) (by assumption) ?rest6n18
              case hy6n18 =>
                intro w' hSw
                go_simp
                try with_reducible rfl
              try simp only [Act.put, List.getElem_toArray, List.getElem_cons_succ, List.getElem_cons_zero, List.setIfInBounds_toArray, List.set_cons_zero, List.set_cons_succ]
              refine wpAnyH_take (i := 7) (oi := _) (v := ?v7n19) rfl (by kernel_rfl) (by kernel_rfl) (by kernel_rfl) (fun _ _ _ h => h) (Or.inl ⟨by rfl, ?hy7n19⟩) (by assumption) ?rest7n19
              case hy7n19 =>
                intro w' hSw
                go_simp
                try with_reducible rfl
              try simp only [Act.put, List.getElem_toArray, List.getElem_cons_succ, List.getElem_cons_zero, List.setIfInBounds_toArray, List.set_cons_zero, List.set_cons_succ]
              refine wpAnyH_take (i := 8) (oi := _) (v := ?v8n20) rfl (by kernel_rfl) (by kernel_rfl) (by kernel_rfl) (fun _ _ _ h => h) (Or.inl ⟨by rfl, ?hy8n20⟩) (by assumption) ?rest8n20
              case hy8n20 =>
                intro w' hSw
                have hc := (hSw.cell (p := ⟨b1, o1 + j, none⟩) HBLD.out).trans HXD.out
                go_simp
                try with_reducible rfl
              try simp only [Act.put, List.getElem_toArray, List.getElem_cons_succ, List.getElem_cons_zero, List.setIfInBounds_toArray, List.set_cons_zero, List.set_cons_succ]
              refine wpAnyH_take (i := 11) (oi := _) (v := ?v11n21) rfl (by kernel_rfl) (by kernel_rfl) (by kernel_rfl) (fun _ _ _ h => h) (Or.inl ⟨by rfl, ?hy11n21⟩) (by assumption) ?rest11n21
              case hy11n21 =>
                intro w' hSw
                go_simp
                try with_reducible rfl
              try simp only [Act.put, List.getElem_toArray, List.getElem_cons_succ, List.getElem_cons_zero, List.setIfInBounds_toArray, List.set_cons_zero, List.set_cons_succ]
              refine wpAnyH_take (i := 12) (oi := _) (v := ?v12n22) rfl (by kernel_rfl) (by kernel_rfl) (by kernel_rfl) (fun _ _ _ h => h) (Or.inl ⟨by rfl, ?hy12n22⟩) (by assumption) ?rest12n22
              case hy12n22 =>
                intro w' hSw
                go_simp
                try with_reducible rfl
              try simp only [Act.put, List.getElem_toArray, List.getElem_cons_succ, List.getElem_cons_zero, List.setIfInBounds_toArray, List.set_cons_zero, List.set_cons_succ]
              refine' wpAnyH_take (i := 13) (oi := _) (v := _) rfl (by kernel_rfl) (by kernel_rfl) (by kernel_rfl) (fun _ _ _ h => h) (yieldsIf_fromS (by rfl) _ _ rfl g j c j rfl rfl (by omega)) (by assumption) ?rest13n23
              try simp only [Act.put, List.getElem_toArray, List.getElem_cons_succ, List.getElem_cons_zero, List.setIfInBounds_toArray, List.set_cons_zero, List.set_cons_succ]
              refine wpAnyH_ready (rs := [0, 9]) (by kernel_rfl) (by simp) (AllReadyH.cons (o := _) rfl (fun K hK => ?_) (AllReadyH.cons (o := _) rfl (fun K hK => ?_) AllReadyH.nil))
              · rw [if_pos (by rfl)]
                refine wp_slice_eqV 29 0 [] rfl [] rfl _ _ (slice0S _) ?_
                have HA0 := Lib.hid (heap_alloc_new wd.drew (.cells #[] 9))
                have HBA := Lib.hid ((Below.refl wd.heap.size wd).drew.alloc (Nat.le_refl _) (.cells #[] 9))
                have HSA := Lib.hid (World.size_alloc wd.drew (.cells #[] 9))
                generalize World.alloc wd.drew _ = wA at *
                have HOA := Lib.hid (OwnS.empty wA wd.heap.size wd.heap.size HA0.out (Nat.le_refl _))
                refine hK.out _ _ HBA.out (fun hHeld => ?_)
                clear hK K
                try simp only [Act.put, List.getElem_toArray, List.getElem_cons_succ, List.getElem_cons_zero, List.setIfInBounds_toArray, List.set_cons_zero, List.set_cons_succ]
                refine wpAnyH_ready (rs := [4, 9]) (by kernel_rfl) (by simp) (AllReadyH.cons (o := _) rfl (fun K hK => ?_) (AllReadyH.cons (o := _) rfl (fun K hK => ?_) AllReadyH.nil))
                · rw [if_pos (by rfl)]
                  refine wp_appends_sv (.tmp 44) (.tmp 47) rfl wd.heap.size _ [] 0 rfl rfl HOA.out g j c rfl ((HSO.out.below HBA.out).take (by omega)) HCP.out.1 (by omega) (by omega) HBA.out.size ?_
                  intro sp4 c4 wC HOC4 HBC4 HGC4
                  have HBC := Lib.hid (HBA.out.trans HBC4.out)
                  refine hK.out _ _ HBC.out (fun hHeld => ?_)
                  clear hK K
                  try simp only [Act.put, List.getElem_toArray, List.getElem_cons_succ, List.getElem_cons_zero, List.setIfInBounds_toArray, List.set_cons_zero, List.set_cons_succ]
                  refine wpAnyH_ready (rs := [9]) (by kernel_rfl) (by simp) (AllReadyH.cons (o := _) rfl (fun K hK => ?_) AllReadyH.nil)
                  rw [if_pos (by rfl)]
                  refine wp_slice_eqV 29 1 [(0, .tmp 52)] rfl [(0, .string x)] rfl _ _ (slice1S _ x) ?_
                  have HR9 := Lib.hid (StrR.one (heap_alloc_new wC (.cells #[.string x] 9)))
                  have HBG := Lib.hid (HBC.out.alloc HBC.out.size (.cells #[.string x] 9))
                  have HOG := Lib.hid (HOC4.out.below ((Below.refl wC.heap.size wC).alloc (Nat.le_refl _) (.cells #[.string x] 9)))
                  generalize World.alloc wC _ = wG at *
                  refine hK.out _ _ HBG.out (fun hHeld => ?_)
                  clear hK K
                  try simp only [Act.put, List.getElem_toArray, List.getElem_cons_succ, List.getElem_cons_zero, List.setIfInBounds_toArray, List.set_cons_zero, List.set_cons_succ]
                  refine wpAnyH_ready (rs := [10]) (by kernel_rfl) (by simp) (AllReadyH.cons (o := _) rfl (fun K hK => ?_) AllReadyH.nil)
                  rw [if_pos (by rfl)]
                  refine wp_appends_sv (.tmp 48) (.tmp 53) rfl wd.heap.size _ ((outs.map (·.1)).take j) (0 + j) (by rw [List.length_take, List.length_map, HOL.out]; omega) rfl HOG.out (some ⟨wC.heap.size, 0, none⟩) 1 1 rfl HR9.out (fun h => by cases h) (by omega) (by omega) HBG.out.size ?_
                  intro sp5 c5 wE HOE5 HBE5 HGE5
                  have HBE := Lib.hid (HBG.out.trans HBE5.out)
                  refine hK.out _ _ HBE.out (fun hHeld => ?_)
                  clear hK K
                  try simp only [Act.put, List.getElem_toArray, List.getElem_cons_succ, List.getElem_cons_zero, List.setIfInBounds_toArray, List.set_cons_zero, List.set_cons_succ]
                  refine wpAnyH_ready (rs := [14]) (by kernel_rfl) (by simp) (AllReadyH.cons (o := _) rfl (fun K hK => ?_) AllReadyH.nil)
                  rw [if_pos (by rfl)]
                  refine wp_appends_sv (.tmp 54) (.tmp 57) rfl wd.heap.size _ (((outs.map (·.1)).take j) ++ [x]) (0 + j + 1) (by rw [List.length_append, List.length_take, List.length_map, HOL.out, List.length_singleton]; omega) rfl HOE5.out _ (j - j) (c - j) rfl ((HSO.out.below HBE.out).cut (by omega) HCP.out.2) (by rw [slV_none]; exact fun h => by rw [HCP.out.1 h]; simp) (by omega) (by omega) HBE.out.size ?_
                  intro sp6 c6 wF HOF6 HBF6 HGF6
                  have HBF := Lib.hid (HBE.out.trans HBF6.out)
                  refine hK.out _ _ HBF.out (fun hHeld => ?_)
                  clear hK K
                  try simp only [Act.put, List.getElem_toArray, List.getElem_cons_succ, List.getElem_cons_zero, List.setIfInBounds_toArray, List.set_cons_zero, List.set_cons_succ]
                  refine wpAnyH_take (i := 15) (oi := _) (v := ?v15n24) rfl (by kernel_rfl) (by kernel_rfl) (by kernel_rfl) (fun _ _ _ h => h) (Or.inl ⟨by rfl, ?hy15n24⟩) (by assumption) ?rest15n24
                  case hy15n24 =>
                    intro w' hSw
                    go_simp
                    try with_reducible rfl
                  try simp only [Act.put, List.getElem_toArray, List.getElem_cons_succ, List.getElem_cons_zero, List.setIfInBounds_toArray, List.set_cons_zero, List.set_cons_succ]
                  refine wpAnyH_done (by kernel_rfl) ?_ _
                  clear hHeld
                  have HOUT := Lib.hid (show (outs.map (·.1)).take j ++ [x] ++ (outs.map (·.1)).drop j = (insV outs xx).map (·.1) by rw [HINS.out, List.map_append, List.map_append, List.map_take, List.map_drop, ← HXF.out]; rfl)
                  have HKN := Lib.hid (show 0 + j + 1 + (j - j) = j + 1 by omega)
                  have HOZ := HOF6.out
                  rw [HOUT.out] at HOZ
                  have HOZ2 := Lib.hid (HOZ.base (Nat.le_trans HB5.out.size HBD.out.size))
                  have HBZ := Lib.hid (HB5.out.trans ((HBD.out.trans (HBF.out.mono HBD.out.size)).mono HB5.out.size))
                  clear HOZ HOF6
                  rw [HKN.out] at *
                  go_wp2_with fail
                  go_roundw
                  case rel =>
                    refine ⟨j + 1, c6, sp6, insV outs xx, by first | rfl | rw [show j + 1 + (j - j) = j + 1 by omega], by go_num, by omega, by rw [insV_len, HOL.out], ?_, ?_, ?_, HOZ2.out, HBZ.out⟩
                    · rw [HTK.out, HOE.out, ← HXX.out]; unfold kvs; rw [List.map_append]; exact (refV_snoc _ _).symm
                    · rw [← HXX.out]; exact HG.out.ins HVX.out
                    · rw [HTK.out]; intro y hy
                      rcases List.mem_append.1 hy with hy | hy
                      · exact HV.out y hy
                      · rw [List.mem_singleton.1 hy]; exact HVX.out
                  case measure => simp [intOf]; omega
                · rw [if_pos (by rfl)]
                  refine wp_slice_eqV 29 1 [(0, .tmp 52)] rfl [(0, .string x)] rfl _ _ (slice1S _ x) ?_
                  have HR9 := Lib.hid (heap_alloc_new wA (.cells #[.string x] 9))
                  have HBC := Lib.hid (HBA.out.alloc HBA.out.size (.cells #[.string x] 9))
                  have HOB := Lib.hid (HOA.out.below ((Below.refl wA.heap.size wA).alloc (Nat.le_refl _) (.cells #[.string x] 9)))
                  generalize World.alloc wA _ = wB at *
                  refine hK.out _ _ HBC.out (fun hHeld => ?_)
                  clear hK K
                  try simp only [Act.put, List.getElem_toArray, List.getElem_cons_succ, List.getElem_cons_zero, List.setIfInBounds_toArray, List.set_cons_zero, List.set_cons_succ]
                  refine wpAnyH_ready (rs := [4]) (by kernel_rfl) (by simp) (AllReadyH.cons (o := _) rfl (fun K hK => ?_) AllReadyH.nil)
                  rw [if_pos (by rfl)]
                  refine wp_appends_sv (.tmp 44) (.tmp 47) rfl wd.heap.size _ [] 0 rfl rfl HOB.out g j c rfl ((HSO.out.below HBC.out).take (by omega)) HCP.out.1 (by omega) (by omega) HBC.out.size ?_
                  intro sp4 c4 wC HOC4 HBC4 HGC4
                  have HBG := Lib.hid (HBC.out.trans HBC4.out)
                  have HR10 := Lib.hid (StrR.one ((HGC4.out.block wA.heap.size (Array.getElem?_eq_some_iff.1 HR9.out).1 (by intro h; injection h with h; have h' : wA.heap.size = wd.heap.size := h; have h2 : wd.heap.size < wA.heap.size := (Array.getElem?_eq_some_iff.1 HA0.out).1; omega)).trans HR9.out))
                  refine hK.out _ _ HBG.out (fun hHeld => ?_)
                  clear hK K
                  try simp only [Act.put, List.getElem_toArray, List.getElem_cons_succ, List.getElem_cons_zero, List.setIfInBounds_toArray, List.set_cons_zero, List.set_cons_succ]
                  refine wpAnyH_ready (rs := [10]) (by kernel_rfl) (by simp) (AllReadyH.cons (o := _) rfl (fun K hK => ?_) AllReadyH.nil)
                  rw [if_pos (by rfl)]
                  refine wp_appends_sv (.tmp 48) (.tmp 53) rfl wd.heap.size _ ((outs.map (·.1)).take j) (0 + j) (by rw [List.length_take, List.length_map, HOL.out]; omega) rfl HOC4.out (some ⟨wA.heap.size, 0, none⟩) 1 1 rfl HR10.out (fun h => by cases h) (by omega) (by omega) HBG.out.size ?_
                  intro sp5 c5 wE HOE5 HBE5 HGE5
                  have HBE := Lib.hid (HBG.out.trans HBE5.out)
                  refine hK.out _ _ HBE.out (fun hHeld => ?_)
                  clear hK K
                  try simp only [Act.put, List.getElem_toArray, List.getElem_cons_succ, List.getElem_cons_zero, List.setIfInBounds_toArray, List.set_cons_zero, List.set_cons_succ]
                  refine wpAnyH_ready (rs := [14]) (by kernel_rfl) (by simp) (AllReadyH.cons (o := _) rfl (fun K hK => ?_) AllReadyH.nil)
                  rw [if_pos (by rfl)]
                  refine wp_appends_sv (.tmp 54) (.tmp 57) rfl wd.heap.size _ (((outs.map (·.1)).take j) ++ [x]) (0 + j + 1) (by rw [List.length_append, List.length_take, List.length_map, HOL.out, List.length_singleton]; omega) rfl HOE5.out _ (j - j) (c - j) rfl ((HSO.out.below HBE.out).cut (by omega) HCP.out.2) (by rw [slV_none]; exact fun h => by rw [HCP.out.1 h]; simp) (by omega) (by omega) HBE.out.size ?_
                  intro sp6 c6 wF HOF6 HBF6 HGF6
                  have HBF := Lib.hid (HBE.out.trans HBF6.out)
                  refine hK.out _ _ HBF.out (fun hHeld => ?_)
                  clear hK K
                  try simp only [Act.put, List.getElem_toArray, List.getElem_cons_succ, List.getElem_cons_zero, List.setIfInBounds_toArray, List.set_cons_zero, List.set_cons_succ]
                  refine wpAnyH_take (i := 15) (oi := _) (v := ?v15n25) rfl (by kernel_rfl) (by kernel_rfl) (by kernel_rfl) (fun _ _ _ h => h) (Or.inl ⟨by rfl, ?hy15n25⟩) (by assumption) ?rest15n25
                  case hy15n25 =>
                    intro w' hSw
                    go_simp
                    try with_reducible rfl
                  try simp only [Act.put, List.getElem_toArray, List.getElem_cons_succ, List.getElem_cons_zero, List.setIfInBounds_toArray, List.set_cons_zero, List.set_cons_succ]
                  refine wpAnyH_done (by kernel_rfl) ?_ _
                  clear hHeld
                  have HOUT := Lib.hid (show (outs.map (·.1)).take j ++ [x] ++ (outs.map (·.1)).drop j = (insV outs xx).map (·.1) by rw [HINS.out, List.map_append, List.map_append, List.map_take, List.map_drop, ← HXF.out]; rfl)
                  have HKN := Lib.hid (show 0 + j + 1 + (j - j) = j + 1 by omega)
                  have HOZ := HOF6.out
                  rw [HOUT.out] at HOZ
                  have HOZ2 := Lib.hid (HOZ.base (Nat.le_trans HB5.out.size HBD.out.size))
                  have HBZ := Lib.hid (HB5.out.trans ((HBD.out.trans (HBF.out.mono HBD.out.size)).mono HB5.out.size))
                  clear HOZ HOF6
                  rw [HKN.out] at *
                  go_wp2_with fail
                  go_roundw
                  case rel =>
                    refine ⟨j + 1, c6, sp6, insV outs xx, by first | rfl | rw [show j + 1 + (j - j) = j + 1 by omega], by go_num, by omega, by rw [insV_len, HOL.out], ?_, ?_, ?_, HOZ2.out, HBZ.out⟩
                    · rw [HTK.out, HOE.out, ← HXX.out]; unfold kvs; rw [List.map_append]; exact (refV_snoc _ _).symm
                    · rw [← HXX.out]; exact HG.out.ins HVX.out
                    · rw [HTK.out]; intro y hy
                      rcases List.mem_append.1 hy with hy | hy
                      · exact HV.out y hy
                      · rw [List.mem_singleton.1 hy]; exact HVX.out
                  case measure => simp [intOf]; omega
              · rw [if_pos (by rfl)]
                refine wp_slice_eqV 29 1 [(0, .tmp 52)] rfl [(0, .string x)] rfl _ _ (slice1S _ x) ?_
                have HR9 := Lib.hid (heap_alloc_new wd.drew (.cells #[.string x] 9))
                have HBA := Lib.hid ((Below.refl wd.heap.size wd).drew.alloc (Nat.le_refl _) (.cells #[.string x] 9))
                generalize World.alloc wd.drew _ = wA at *
                refine hK.out _ _ HBA.out (fun hHeld => ?_)
                clear hK K
                try simp only [Act.put, List.getElem_toArray, List.getElem_cons_succ, List.getElem_cons_zero, List.setIfInBounds_toArray, List.set_cons_zero, List.set_cons_succ]
                refine wpAnyH_ready (rs := [0]) (by kernel_rfl) (by simp) (AllReadyH.cons (o := _) rfl (fun K hK => ?_) AllReadyH.nil)
                rw [if_pos (by rfl)]
                refine wp_slice_eqV 29 0 [] rfl [] rfl _ _ (slice0S _) ?_
                have HA0 := Lib.hid (heap_alloc_new wA (.cells #[] 9))
                have HBC := Lib.hid (HBA.out.alloc HBA.out.size (.cells #[] 9))
                have HR8 := Lib.hid ((((Below.refl wA.heap.size wA).alloc (Nat.le_refl _) (.cells #[] 9)).block wd.heap.size (Array.getElem?_eq_some_iff.1 HR9.out).1).trans HR9.out)
                generalize World.alloc wA _ = wB at *
                have HOB := Lib.hid (OwnS.empty wB wA.heap.size wd.heap.size HA0.out HBA.out.size)
                refine hK.out _ _ HBC.out (fun hHeld => ?_)
                clear hK K
                try simp only [Act.put, List.getElem_toArray, List.getElem_cons_succ, List.getElem_cons_zero, List.setIfInBounds_toArray, List.set_cons_zero, List.set_cons_succ]
                refine wpAnyH_ready (rs := [4]) (by kernel_rfl) (by simp) (AllReadyH.cons (o := _) rfl (fun K hK => ?_) AllReadyH.nil)
                rw [if_pos (by rfl)]
                refine wp_appends_sv (.tmp 44) (.tmp 47) rfl wd.heap.size _ [] 0 rfl rfl HOB.out g j c rfl ((HSO.out.below HBC.out).take (by omega)) HCP.out.1 (by omega) (by omega) HBC.out.size ?_
                intro sp4 c4 wC HOC4 HBC4 HGC4
                have HBG := Lib.hid (HBC.out.trans HBC4.out)
                have HR10 := Lib.hid (StrR.one ((HGC4.out.block wd.heap.size (Array.getElem?_eq_some_iff.1 HR8.out).1 (by intro h; injection h with h; have h' : wd.heap.size = wA.heap.size := h; have h2 : wd.heap.size < wA.heap.size := (Array.getElem?_eq_some_iff.1 HR9.out).1; omega)).trans HR8.out))
                refine hK.out _ _ HBG.out (fun hHeld => ?_)
                clear hK K
                try simp only [Act.put, List.getElem_toArray, List.getElem_cons_succ, List.getElem_cons_zero, List.setIfInBounds_toArray, List.set_cons_zero, List.set_cons_succ]
                refine wpAnyH_ready (rs := [10]) (by kernel_rfl) (by simp) (AllReadyH.cons (o := _) rfl (fun K hK => ?_) AllReadyH.nil)
                rw [if_pos (by rfl)]
                refine wp_appends_sv (.tmp 48) (.tmp 53) rfl wd.heap.size _ ((outs.map (·.1)).take j) (0 + j) (by rw [List.length_take, List.length_map, HOL.out]; omega) rfl HOC4.out (some ⟨wd.heap.size, 0, none⟩) 1 1 rfl HR10.out (fun h => by cases h) (by omega) (by omega) HBG.out.size ?_
                intro sp5 c5 wE HOE5 HBE5 HGE5
                have HBE := Lib.hid (HBG.out.trans HBE5.out)
                refine hK.out _ _ HBE.out (fun hHeld => ?_)
                clear hK K
                try simp only [Act.put, List.getElem_toArray, List.getElem_cons_succ, List.getElem_cons_zero, List.setIfInBounds_toArray, List.set_cons_zero, List.set_cons_succ]
                refine wpAnyH_ready (rs := [14]) (by kernel_rfl) (by simp) (AllReadyH.cons (o := _) rfl (fun K hK => ?_) AllReadyH.nil)
                rw [if_pos (by rfl)]
                refine wp_appends_sv (.tmp 54) (.tmp 57) rfl wd.heap.size _ (((outs.map (·.1)).take j) ++ [x]) (0 + j + 1) (by rw [List.length_append, List.length_take, List.length_map, HOL.out, List.length_singleton]; omega) rfl HOE5.out _ (j - j) (c - j) rfl ((HSO.out.below HBE.out).cut (by omega) HCP.out.2) (by rw [slV_none]; exact fun h => by rw [HCP.out.1 h]; simp) (by omega) (by omega) HBE.out.size ?_
                intro sp6 c6 wF HOF6 HBF6 HGF6
                have HBF := Lib.hid (HBE.out.trans HBF6.out)
                refine hK.out _ _ HBF.out (fun hHeld => ?_)
                clear hK K
                try simp only [Act.put, List.getElem_toArray, List.getElem_cons_succ, List.getElem_cons_zero, List.setIfInBounds_toArray, List.set_cons_zero, List.set_cons_succ]
                refine wpAnyH_take (i := 15) (oi := _) (v := ?v15n26) rfl (by kernel_rfl) (by kernel_rfl) (by kernel_rfl) (fun _ _ _ h => h) (Or.inl ⟨by rfl, ?hy15n26⟩) (by assumption) ?rest15n26
                case hy15n26 =>
                  intro w' hSw
                  go_simp
                  try with_reducible rfl
                try simp only [Act.put, List.getElem_toArray, List.getElem_cons_succ, List.getElem_cons_zero, List.setIfInBounds_toArray, List.set_cons_zero, List.set_cons_succ]
                refine wpAnyH_done (by kernel_rfl) ?_ _
                clear hHeld
                have HOUT := Lib.hid (show (outs.map (·.1)).take j ++ [x] ++ (outs.map (·.1)).drop j = (insV outs xx).map (·.1) by rw [HINS.out, List.map_append, List.map_append, List.map_take, List.map_drop, ← HXF.out]; rfl)
                have HKN := Lib.hid (show 0 + j + 1 + (j - j) = j + 1 by omega)
                have HOZ := HOF6.out
                rw [HOUT.out] at HOZ
                have HOZ2 := Lib.hid (HOZ.base (Nat.le_trans HB5.out.size HBD.out.size))
                have HBZ := Lib.hid (HB5.out.trans ((HBD.out.trans (HBF.out.mono HBD.out.size)).mono HB5.out.size))
                clear HOZ HOF6
                rw [HKN.out] at *
                go_wp2_with fail
                go_roundw
                case rel =>
                  refine ⟨j + 1, c6, sp6, insV outs xx, by first | rfl | rw [show j + 1 + (j - j) = j + 1 by omega], by go_num, by omega, by rw [insV_len, HOL.out], ?_, ?_, ?_, HOZ2.out, HBZ.out⟩
                  · rw [HTK.out, HOE.out, ← HXX.out]; unfold kvs; rw [List.map_append]; exact (refV_snoc _ _).symm
                  · rw [← HXX.out]; exact HG.out.ins HVX.out
                  · rw [HTK.out]; intro y hy
                    rcases List.mem_append.1 hy with hy | hy
                    · exact HV.out y hy
                    · rw [List.mem_singleton.1 hy]; exact HVX.out
                case measure => simp [intOf]; omega
      · obtain rfl : k = n := by omega
        have hd : decide ((k : Int) < (k : Int)) = false := by simp
        have HTK := Lib.hid (show l.take k = l from List.take_of_length_le (by have := HL.out.len; omega))
        have HE := Lib.hid (show errW s l = 0 by
          unfold errW; rw [HS.out, if_pos rfl, if_pos]
          unfold validAll; rw [List.all_eq_true]; have := HV.out; rwa [HTK.out] at this)
        go_wp2_with fail
        go_ret2
        refine ⟨g, k, c, by rw [HE.out]; rfl, fun _ => ⟨HL.out.len.symm, ?_⟩, fun h => absurd HE.out h, HB.out⟩
        have := HO.out; rw [HOE.out, HTK.out] at this
        exact this
end Go.Proofs.YtceeilojcifgeaaGreatDoor

namespace Go.Proofs.YtceeilojcifgeaaGreatDoor
open Go.RowKit Go.Sort

set_option maxRecDepth 100000 in
set_option maxHeartbeats 1000000 in
theorem sameV_any (sp1 sp2 : Option Addr) (n c1 c2 : Nat) (l : List ByteArray) (w : World) (h1 : StrR w sp1 n l) (h2 : StrR w sp2 n l) (hn : n ≤ 1000) :
    Calls Tryz.prog 20 #[.slice sp1 n c1, .slice sp2 n c2] w fun e w' => e = .returned (.bool true) ∧ Below w.heap.size w w' := by
  have H1 := Lib.hid h1; have H2 := Lib.hid h2
  clear h1 h2
  go_enter Tryz.func20, Tryz.ntmps20
  go_wp2_with fail
  go_loopw [5] (fun i wr => ∃ k : Nat, k ≤ n ∧ i = .int .i64 k ∧ Hid (Below w.heap.size w wr)) (fun i _ => n - (intOf i).toNat)
  case atStart => exact ⟨0, Nat.zero_le _, rfl, Below.refl _ _⟩
  case round =>
    obtain ⟨k, hk, rfl, hw⟩ := hrel
    by_cases hlt : k < n
    · have hd : decide ((k : Int) < (n : Int)) = true := by simp; omega
      have p1 : (0 : Int) ≤ (k : Int) := by omega
      have p2 : (k : Int) < (n : Int) := by omega
      obtain ⟨x, hx⟩ : ∃ x, l[k]? = some x := ⟨l[k]'(by have := H1.out.len; omega), List.getElem?_eq_getElem _⟩
      obtain ⟨b1, o1, rfl, _, g1⟩ := (H1.out.below hw.out).cells (by omega)
      obtain ⟨b2, o2, rfl, _, g2⟩ := (H2.out.below hw.out).cells (by omega)
      have x1 : wr.cell? ⟨b1, o1 + k, none⟩ = some (.string x) := g1 k x hx
      have x2 : wr.cell? ⟨b2, o2 + k, none⟩ = some (.string x) := g2 k x hx
      have HW : Hid (∀ q, Below w.heap.size w (wr.drewN q)) := fun q => hw.out.trans (⟨rfl, rfl, rfl, Nat.le_refl _, fun _ _ => rfl⟩)
      clear hw g1 g2 hx
      go_wp2_with fail
      go_quiet (fail)
      go_wp2_with fail
      go_roundw
      case rel => exact ⟨k + 1, by omega, by go_num, HW.out _⟩
      case measure => simp [intOf]; omega
    · obtain rfl : n = k := by omega
      have hd : decide ((n : Int) < (n : Int)) = false := by simp
      go_wp2_with fail
      go_ret
      exact ⟨rfl, hw.out⟩
set_option maxRecDepth 100000 in
set_option maxHeartbeats 4000000 in
theorem rlatest_any (s : Int) (sp : Option Addr) (n cap : Nat) (l : List ByteArray) (w : World) (hl : StrR w sp n l) (hn : n ≤ 1000) :
    Calls Tryz.prog 19 #[.int .i64 s, .slice sp n cap] w fun e w' => e = .returned (.tuple #[.string (latR s l).1, .int .i64 (latR s l).2]) ∧ Below w.heap.size w w' := by
  have HRS := Lib.hid (rsort_any s sp n cap l w hl hn)
  have HL := Lib.hid hl
  clear hl
  obtain ⟨er, her⟩ : ∃ er, errW s l = er := ⟨_, rfl⟩
  have HER := Lib.hid her
  by_cases hr : er = 0
  · subst hr
    have hgood : schB s = true ∧ validAll s l = true := by
      unfold errW at her
      split at her
      · split at her
        · exact ⟨by assumption, by assumption⟩
        · cases her
      · cases her
    have HG := Lib.hid hgood
    clear her hgood
    by_cases h0 : n = 0
    · have HX := Lib.hid (show latR s l = (⟨#[]⟩, 4) by
        unfold latR; rw [HER.out, if_neg (by simp), if_pos]; exact List.eq_nil_of_length_eq_zero (HL.out.len.trans h0))
      rw [HX.out]
      subst h0
      go_enter Tryz.func19, Tryz.ntmps19
      go_wp2_with fail
      refine HRS.out.mono ?_
      rintro e w1 ⟨sp1, n1, c1, he, _, _, b1⟩
      rw [HER.out] at he
      subst he
      have B1 := Lib.hid b1; clear b1
      have hz0 : (((0 : Nat) : Int) == 0) = true := rfl
      go_wp2_with fail
      go_ret2
      exact ⟨rfl, B1.out⟩
    · obtain ⟨q, rfl⟩ : ∃ q, n = q + 1 := ⟨n - 1, by omega⟩
      have HX := Lib.hid (show latR s l = ((maxS (kvs s l) q).1, 0) by
        unfold latR; rw [HER.out, if_neg (by simp), if_neg (by rintro rfl; exact h0 (HL.out.len.symm.trans rfl)), HL.out.len]; rfl)
      have HV := Lib.hid (show ∀ x ∈ l, valB s x.data.toList = true from fun x hx => List.all_eq_true.1 HG.out.2 x hx)
      have HGD := Lib.hid (show ∀ i x, l[i]? = some x → (kvs s l).getD i default = (x, keyB s x) from fun i x hx => by
        unfold kvs; rw [List.getD_eq_getElem?_getD, List.getElem?_map, hx]; rfl)
      have HMM := Lib.hid (show ∀ i, i ≤ q → ∃ b, b ∈ l ∧ maxS (kvs s l) i = (b, keyB s b) from fun i hi => by
        obtain ⟨b, hb, e⟩ := List.mem_map.1 (maxS_mem (kvs s l) i (by rw [kvs_len, HL.out.len]; omega))
        exact ⟨b, hb, e.symm⟩)
      rw [HX.out]
      have hnz : (((q + 1 : Nat) : Int) == 0) = false := by simp; omega
      have hnz2 : ((q : Int) + 1 == 0) = false := by simp; omega
      have p0 : (0 : Int) < ((q + 1 : Nat) : Int) := by omega
      have p01 : ¬ ((q + 1 : Nat) : Int) ≤ 0 := by omega
      have p02 : decide (0 < q + 1) = true := by simp
      obtain ⟨b1, o1, rfl, _, g1⟩ := HL.out.cells (by omega)
      obtain ⟨x0, hx0⟩ : ∃ x, l[0]? = some x := ⟨l[0]'(by have := HL.out.len; omega), List.getElem?_eq_getElem _⟩
      have HX0 := Lib.hid hx0
      clear g1 hx0
      go_enter Tryz.func19, Tryz.ntmps19
      go_wp2_with fail
      refine HRS.out.mono ?_
      rintro e w1 ⟨sp1, n1, c1, he, _, _, b1'⟩
      rw [HER.out] at he
      subst he
      have HL1 := Lib.hid (HL.out.below b1')
      have B1 := Lib.hid b1'; clear b1'
      obtain ⟨b1', o1', e, hb1, g1⟩ := HL1.out.cells (by omega)
      injection e with e; injection e with e1 e2; subst e1 e2
      have x1 : w1.cell? ⟨b1, o1, none⟩ = some (.string x0) := g1 0 x0 HX0.out
      have x1' : w1.cell? ⟨b1, o1 + 0, none⟩ = some (.string x0) := g1 0 x0 HX0.out
      clear g1
      go_wp2_with fail
      go_loopw [8, 9] (fun v i wr => ∃ (jj : Nat) (b : ByteArray), v = .string b ∧ i = .int .i64 jj ∧ 1 ≤ jj ∧ jj ≤ q + 1 ∧ Hid (b ∈ l ∧ maxS (kvs s l) (jj - 1) = (b, keyB s b) ∧ Below w1.heap.size w1 wr)) (fun _ i _ => q + 1 - (intOf i).toNat)
      case atStart => exact ⟨1, x0, rfl, rfl, Nat.le_refl _, by omega, List.mem_of_getElem? HX0.out, by show maxS _ 0 = _; rw [maxS, HGD.out 0 x0 HX0.out], Below.refl _ _⟩
      case round =>
        obtain ⟨jj, b, rfl, rfl, hj1, hj, H⟩ := hrel
        have HBM := Lib.hid H.out.1; have HMX := Lib.hid H.out.2.1; have HBE := Lib.hid H.out.2.2
        clear H
        clear x1 x1'
        by_cases hlt : jj < q + 1
        · have hd : decide ((jj : Int) < ((q + 1 : Nat) : Int)) = true := by simp; omega
          have p1 : (0 : Int) ≤ (jj : Int) := by omega
          have p2 : (jj : Int) < ((q + 1 : Nat) : Int) := by omega
          obtain ⟨x, hx⟩ : ∃ x, l[jj]? = some x := ⟨l[jj]'(by have := HL.out.len; omega), List.getElem?_eq_getElem _⟩
          obtain ⟨b1', o1', e, hb1, g1⟩ := (HL1.out.below HBE.out).cells (by omega)
          injection e with e; injection e with e1 e2; subst e1 e2
          have x1 : wr.cell? ⟨b1, o1 + jj, none⟩ = some (.string x) := g1 jj x hx
          have HX1 := Lib.hid x1; have HBL := Lib.hid hb1
          have HXM := Lib.hid (List.mem_of_getElem? hx)
          have HMS := Lib.hid (show maxS (kvs s l) jj = if 0 < cKV (x, keyB s x) (b, keyB s b) then (x, keyB s x) else (b, keyB s b) by
            obtain ⟨j, rfl⟩ : ∃ j, jj = j + 1 := ⟨jj - 1, by omega⟩
            have h9 := HMX.out
            rw [Nat.add_sub_cancel] at h9
            rw [maxS, h9, HGD.out (j + 1) x hx])
          have HO := Lib.hid (fun w => ord_kv HG.out.1 (HV.out x HXM.out) (HV.out b HBM.out) w)
          clear g1 hx hb1
          generalize cKV (x, keyB s x) (b, keyB s b) = cc at *
          by_cases hc : 0 < cc
          · have hcd : decide (cc > 0) = true := by simp; omega
            have hcd2 : decide (0 < cc) = true := by simp; omega
            have HM2 := Lib.hid (show maxS (kvs s l) jj = (x, keyB s x) by rw [HMS.out, if_pos hc])
            clear HMS
            go_wp2_with fail
            refine (HO.out _).mono ?_
            rintro e w5 ⟨rfl, b5⟩
            have HB5 := Lib.hid (HBE.out.trans (b5.mono HBE.out.size))
            have x2 : w5.cell? ⟨b1, o1 + jj, none⟩ = some (.string x) := (b5.cell (p := ⟨b1, o1 + jj, none⟩) HBL.out).trans HX1.out
            clear b5 x1
            go_wp2_with fail
            go_roundw
            case rel => exact ⟨jj + 1, x, rfl, by go_num, by omega, by omega, HXM.out, HM2.out, HB5.out⟩
            case measure => simp [intOf]; omega
          · have hcd : decide (cc > 0) = false := by simp; omega
            have hcd2 : decide (0 < cc) = false := by simp; omega
            have HM2 := Lib.hid (show maxS (kvs s l) jj = (b, keyB s b) by rw [HMS.out, if_neg hc])
            clear HMS
            go_wp2_with fail
            refine (HO.out _).mono ?_
            rintro e w5 ⟨rfl, b5⟩
            have HB5 := Lib.hid (HBE.out.trans (b5.mono HBE.out.size))
            clear b5 x1
            go_wp2_with fail
            go_roundw
            case rel => exact ⟨jj + 1, b, rfl, by go_num, by omega, by omega, HBM.out, HM2.out, HB5.out⟩
            case measure => simp [intOf]; omega
        · obtain rfl : jj = q + 1 := by omega
          have hd : decide (((q + 1 : Nat) : Int) < ((q + 1 : Nat) : Int)) = false := by simp
          go_wp2_with fail
          go_ret2
          exact ⟨by have h9 := HMX.out; rw [Nat.add_sub_cancel] at h9; rw [h9]; rfl, B1.out.trans (HBE.out.mono B1.out.size)⟩
  · have HX := Lib.hid (show latR s l = (⟨#[]⟩, er) by unfold latR; rw [HER.out, if_pos hr])
    rw [HX.out]
    have hr14 : er = 1 ∨ er = 14 := by
      rw [← her] at hr ⊢; unfold errW at hr ⊢; split at hr
      · split at hr
        · exact absurd rfl hr
        · rename_i h1 h2; rw [if_pos h1, if_neg h2]; exact .inl rfl
      · rename_i h1; rw [if_neg h1]; exact .inr rfl
    clear her hr
    rcases hr14 with rfl | rfl
    all_goals
      go_enter Tryz.func19, Tryz.ntmps19
      go_wp2_with fail
      refine HRS.out.mono ?_
      rintro e w1 ⟨sp1, n1, c1, he, _, _, b1⟩
      rw [HER.out] at he
      subst he
      have B1 := Lib.hid b1; clear b1
      go_wp2_with fail
      go_ret2
      exact ⟨rfl, B1.out⟩
end Go.Proofs.YtceeilojcifgeaaGreatDoor
