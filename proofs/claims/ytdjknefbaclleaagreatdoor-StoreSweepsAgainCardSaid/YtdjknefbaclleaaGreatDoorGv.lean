/-
  Digests: laws (a slice of digests cut from a place on, an append of many) and the walk of the reference's Add (at most 80000000 digests).
-/
import Derived.Test.YtdjknefbaclleaaGreatDoorGy
import Derived.Test.YtdjknefbaclleaaGreatDoorGz
import Derived.Test.YtdjknefbaclleaaGreatDoorGk
import Derived.Test.YtdjknefbaclleaaGreatDoorGg
import Derived.Laws.AppendOwnNone
import Derived.Test.YtdjknefbaclleaaGreatDoorGu
namespace Go.Proofs.YtdjknefbaclleaaGreatDoor
open Go.RowKit

def slD (sp : Option Addr) (k cap : Nat) : Option Addr := if cap = k then sp else sp.map (·.add (k * 32))
theorem slD_none (k cap : Nat) (sp : Option Addr) : (slD sp k cap = none) = (sp = none) := by
  unfold slD; split
  · rfl
  · simp
set_option maxRecDepth 100000 in
theorem sizeDg (w : World) : (sizeOf 29).run Tryz.prog w = .ok 32 w := by
  have h := infoD
  cases hi : Tryz.prog.info? 29 with
  | none => rw [hi] at h; cases h
  | some i => rw [hi] at h; injection h with h; simp [sizeOf, typeInfo, hi, h]
theorem run_fromD (w : World) (sp : Option Addr) (n cap k : Nat) (hk : k ≤ n) :
    (Instr.slice 25 (.slice sp n cap) (some (.int .i64 k)) none none).run Tryz.prog w = .ok (.slice (slD sp k cap) (n - k) (cap - k)) w := by
  have h1 : (0 : Int) ≤ (k : Int) ∧ (k : Int) ≤ (n : Int) := ⟨by omega, by omega⟩
  simp [Instr.slice, Instr.sliceBounds, Instr.sliceBound, asIntOf, run_underlying Tryz.underlying25, sizeDg, hk, slD]
theorem yieldsIf_fromD {ops : Array Oper} {S : World → Prop} {op : Oper} {a : Act} (hw : Region.wanted op (yielded ops a.tmps) = true) (x lo : Operand) (ho : op.op = .slice 25 x (some lo) none none)
    (sp : Option Addr) (n cap k : Nat) (hx : a.eval x = .slice sp n cap) (hlo : a.eval lo = .int .i64 k) (hk : k ≤ n) : YieldsIf Tryz.prog ops S op (.slice (slD sp k cap) (n - k) (cap - k)) a :=
  .inl ⟨hw, fun w _ => by
    unfold execOp
    simp only [ho, Option.map_some, Option.map_none, hx, hlo]
    have := run_fromD w sp n cap k hk
    simp [Instr.sliceAt, run_underlying Tryz.underlying25, this]⟩
theorem DigsIn.at {w : World} {B : Nat} {sp : Option Addr} {n cap : Nat} {l : List (List Int)} (h : DigsIn w B sp n cap l) (hn : 0 < n) : ∃ b off, sp = some ⟨b, off, none⟩ ∧ b < B ∧ n ≤ cap ∧ ∀ i x, l[i]? = some x → w.rangeAt b (off + i * 32) (x.map (Value.int .u8)) := by
  obtain ⟨b, off, e, hb, hc, hr⟩ := h.cells hn
  refine ⟨b, off, e, hb, hc, fun i x hi => ?_⟩
  have hl := (List.getElem?_eq_some_iff.1 hi).1
  have := hr i (by rw [← h.len]; exact hl)
  rwa [List.getD_eq_getElem?_getD, hi] at this
theorem DigsIn.mk' {w : World} {B : Nat} {sp : Option Addr} {n cap : Nat} {l : List (List Int)} (hl : l.length = n) (hd : ∀ x ∈ l, D32 x) (h : 0 < n → ∃ b off, sp = some ⟨b, off, none⟩ ∧ b < B ∧ n ≤ cap ∧ ∀ i x, l[i]? = some x → w.rangeAt b (off + i * 32) (x.map (Value.int .u8))) : DigsIn w B sp n cap l :=
  ⟨hl, fun x hx => ⟨(hd x hx).1, (hd x hx).2⟩, fun hn => by
    obtain ⟨b, off, e, hb, hc, hr⟩ := h hn
    exact ⟨b, off, e, hb, hc, fun i hi => hr i _ (by rw [List.getD_eq_getElem?_getD, List.getElem?_eq_getElem (by omega)]; rfl)⟩⟩
theorem DigsIn.d32 {w : World} {B : Nat} {sp : Option Addr} {n cap : Nat} {l : List (List Int)} (h : DigsIn w B sp n cap l) : ∀ x ∈ l, D32 x := fun x hx => ⟨(h.digs x hx).1, (h.digs x hx).2⟩
theorem DigsIn.upD {w w' : World} {da : Option Addr} {B n cap : Nat} {l : List (List Int)} (h : DigsIn w B da n cap l) (hb : Below B w w') (hs : B ≤ w'.heap.size) : DigsIn w' w'.heap.size da n cap l :=
  ⟨h.len, h.digs, fun hn => by
    obtain ⟨b, off, e, hlt, hc, hr⟩ := h.cells hn
    exact ⟨b, off, e, Nat.lt_of_lt_of_le hlt hs, hc, fun i hi => range_below (hr i hi) hb hlt⟩⟩
theorem DigsIn.cutD {w : World} {B : Nat} {sp : Option Addr} {n cap : Nat} {l : List (List Int)} (h : DigsIn w B sp n cap l) {k : Nat} (hk : k ≤ n) : DigsIn w B (slD sp k cap) (n - k) (cap - k) (l.drop k) :=
  DigsIn.mk' (by rw [List.length_drop, h.len]) (fun x hx => h.d32 x (List.mem_of_mem_drop hx)) fun hn => by
    obtain ⟨b, off, rfl, hlt, hc, hr⟩ := h.at (by omega)
    refine ⟨b, off + k * 32, ?_, hlt, by omega, fun i x hi => ?_⟩
    · unfold slD; rw [if_neg (by omega)]; simp only [Option.map_some, Addr.add_mid]
    · rw [List.getElem?_drop] at hi
      have := hr (k + i) x hi
      rw [show off + (k + i) * 32 = off + k * 32 + i * 32 by omega] at this
      exact this
theorem DigsIn.one {w : World} {b : Nat} {x : List Int} (h : w.rangeAt b 0 (x.map (Value.int .u8))) (hb : b < w.heap.size) (hx : D32 x) : DigsIn w w.heap.size (some ⟨b, 0, none⟩) 1 1 [x] :=
  DigsIn.mk' rfl (fun y hy => by rw [List.mem_singleton.1 hy]; exact hx) fun _ => ⟨b, 0, rfl, hb, Nat.le_refl _, fun i y hi => by
    rcases i with _ | i
    · have e : x = y := by simpa using hi
      subst e; exact h
    · simp at hi⟩
theorem rowsDg_append (l m : List (List Int)) : rowsDg (l ++ m) = rowsDg l ++ rowsDg m := by simp [rowsDg]
theorem OwnDg.base {w : World} {b b' : Nat} {v : Value} {l : List (List Int)} (h : OwnDg w b v l) (hb : b' ≤ b) : OwnDg w b' v l := ⟨own_lessG h.1 hb, h.2⟩
theorem OwnDg.nilcap {w : World} {base n cap : Nat} {sp : Option Addr} {l : List (List Int)} (h : OwnDg w base (.slice sp n cap) l) : sp = none → cap = 0 := by
  rintro rfl
  obtain ⟨_, ⟨e, _⟩ | ⟨g, c, u, e, _⟩⟩ := h.1
  · cases e; rfl
  · cases e
theorem own_blk {w : World} {base n cap : Nat} {sp : Option Addr} {l : List (List Int)} (h : OwnDg w base (.slice sp n cap) l) : ∀ b off, sp = some ⟨b, off, none⟩ → base ≤ b := by
  rintro b off rfl
  obtain ⟨_, ⟨e, _⟩ | ⟨g, c, u, e, hb, _⟩⟩ := h.1
  · cases e
  · injection e with e _ _; injection e with e; injection e with e1 _ _; rw [e1]; exact hb
/-- append(own, x) -/
theorem wpList_append_dgG {w : World} {ops : Array Oper} {rest : List Oper} {o : Oper} {a : Act} {Q : Exit → Act → World → Prop} (hgd : o.guard = none) (s x : Operand)
    (ho : o.op = .call { callee := .builtin .append, args := #[s, x], argTypes := #[25, 25] }) (base : Nat) (v : Value) (l : List (List Int)) (n : Nat) (hn : n = l.length) (hs : a.eval s = v) (hown : OwnDg w base v l)
    (g : Nat) (y : List Int) (hx : a.eval x = .slice (some ⟨g, 0, none⟩) 1 1) (hy : w.rangeAt g 0 (y.map (Value.int .u8))) (hok : D32 y) (hlen : n ≤ 1000000000) (hbase : base ≤ w.heap.size)
    (h : ∀ sp cap w', Hid (OwnDg w' base (.slice sp (n + 1) cap) (l ++ [y])) → Hid (Below base w w') → Hid (w.grownBy w' v.ownBlock) → wpList Tryz.prog ops Q rest (a.put o.dst (.slice sp (n + 1) cap)) w') : wpList Tryz.prog ops Q (o :: rest) a w := by
  subst hn
  obtain ⟨i0, hi0, hz0, hz1, hz2⟩ := info_parts infoD3
  refine wpList_append_own w hgd s x _ ho base _ i0 _ 32 32 Tryz.underlying25 hi0 hz0 hz1 hz2 rfl (by decide) v l.length _ hs hown.1 ⟨g, 0, none⟩ 1 1 (y.map (Value.int .u8)) hx (by rw [List.length_map, hok.1]) ?_ (one_map _ _) (by unfold maxLen; omega) (by omega) hbase ?_
  · intro j u hj
    rw [Addr.add_mid]
    exact hy j u hj
  · intro v' w' h1 h2 _
    obtain ⟨sp, cap, rfl⟩ := own_shapeG h1
    refine h sp cap w' ⟨by rw [rowsDg_snoc, List.length_append]; exact h1, fun z hz => ?_⟩ ((Below.refl base w).grown h2 hbase (own_baseG hown.1)) h2
    rcases List.mem_append.1 hz with hz | hz
    · exact hown.2 z hz
    · rw [List.mem_singleton.1 hz]; exact hok
set_option maxRecDepth 100000 in
set_option maxHeartbeats 1000000 in
theorem has_anyG (sp1 : Option Addr) (n1 c1 : Nat) (a : List (List Int)) (d : List Int) (w : World) (ha : DigsIn w w.heap.size sp1 n1 c1 a) (hd : D32 d) (hn : n1 ≤ 1000000000) :
    Calls Tryz.prog 19 #[.slice sp1 n1 c1, .agg (d.map (Value.int .u8)).toArray] w fun e w' => e = .returned (.bool (decide (d ∈ a))) ∧ Below w.heap.size w w' := by
  have HA := Lib.hid ha; have HD := Lib.hid hd; clear ha
  have HB := Lib.hid ((Below.refl w.heap.size w).alloc (Nat.le_refl _) (.cells (d.map (Value.int .u8)).toArray 29))
  have hr : (w.alloc (.cells (d.map (Value.int .u8)).toArray 29)).rangeAt w.heap.size 0 (d.map (Value.int .u8)) := range_row (pre := []) (post := []) (heap_alloc_new w _) (by simp) rfl
  have HID := Lib.hid (info_d hd)
  clear hd
  go_enter Tryz.func19, Tryz.ntmps19
  go_wp2_with fail
  generalize hw0 : World.alloc w _ = w0 at HB hr
  have hs0 : w.heap.size < w0.heap.size := by rw [← hw0]; simp
  have HR := Lib.hid hr; clear hr hw0
  go_loopw [5] (fun i wr => ∃ k : Nat, k ≤ n1 ∧ i = .int .i64 k ∧ Hid (d ∉ a.take k) ∧ Hid (Below w0.heap.size w0 wr)) (fun i _ => n1 - (intOf i).toNat)
  case atStart => exact ⟨0, Nat.zero_le _, rfl, by show d ∉ a.take 0; simp, Below.refl _ _⟩
  case round =>
    obtain ⟨k, hk, rfl, HT, hbe⟩ := hrel
    have HBW := Lib.hid (HB.out.trans (hbe.out.mono HB.out.size))
    by_cases hlt : k < n1
    · have hd : decide ((k : Int) < (n1 : Int)) = true := by simp; omega
      obtain ⟨x, b1, o1, hx, hxo, rfl, hb1, hcap1, hr1⟩ := digs_at HA.out hlt
      have HX := Lib.hid (range_belowG hr1 HBW.out.drew hb1)
      have HY := Lib.hid (range_belowG HR.out hbe.out.drew hs0)
      have HIX := Lib.hid (info_d hxo)
      have he := eqlD x d hxo.1 HD.out.1
      obtain ⟨c, hc⟩ : ∃ c, decide (x = d) = c := ⟨_, rfl⟩
      rw [hc] at he
      have HC := Lib.hid hc; have HXX := Lib.hid hx
      have p1 : (0 : Int) ≤ (k : Int) := by omega
      have p2 : (k : Int) < (n1 : Int) := by omega
      have q1 : IntKind.i64.wrap (k : Int) = (k : Int) := IntWalk.i64_in _ (by omega)
      have HB1 := Lib.hid hbe.out.drew; have HB2 := Lib.hid HBW.out.drew
      clear hx hr1 hxo hc
      go_wp2_with fail
      refine wp_region_held_drew (S := fun w' => w'.rangeAt b1 (o1 + k * 32) (x.map (Value.int .u8)) ∧ w'.rangeAt w.heap.size 0 (d.map (Value.int .u8))) (by kernel_rfl) ⟨HX.out, HY.out⟩ (fun hHeld => ?_)
      refine wpAnyH_take (i := 0) (oi := _) (v := ?v0n10) rfl (by kernel_rfl) (by kernel_rfl) (by kernel_rfl) (fun _ _ _ h => h) (Or.inl ⟨by rfl, ?hy0n10⟩) (by assumption) ?rest0n10
      case hy0n10 =>
        intro w' hSw
        go_simp
        try with_reducible rfl
      try simp only [Act.put, List.getElem_toArray, List.getElem_cons_succ, List.getElem_cons_zero, List.setIfInBounds_toArray, List.set_cons_zero, List.set_cons_succ]
      refine wpAnyH_take (i := 1) (oi := _) (v := ?v1n11) rfl (by kernel_rfl) (by kernel_rfl) (by kernel_rfl) (fun _ _ _ h => h) (Or.inl ⟨by rfl, ?hy1n11⟩) (by assumption) ?rest1n11
      case hy1n11 =>
        intro w' hSw
        go_simp
        try with_reducible rfl
      try simp only [Act.put, List.getElem_toArray, List.getElem_cons_succ, List.getElem_cons_zero, List.setIfInBounds_toArray, List.set_cons_zero, List.set_cons_succ]
      refine wpAnyH_take (i := 2) (oi := _) (v := ?v2n12) rfl (by kernel_rfl) (by kernel_rfl) (by kernel_rfl) (fun _ _ _ h => h) (Or.inl ⟨by rfl, ?hy2n12⟩) (by assumption) ?rest2n12
      case hy2n12 =>
        intro w' hSw
        go_simp
        try with_reducible rfl
      try simp only [Act.put, List.getElem_toArray, List.getElem_cons_succ, List.getElem_cons_zero, List.setIfInBounds_toArray, List.set_cons_zero, List.set_cons_succ]
      refine' wpAnyH_take (i := 3) (oi := _) (v := _) rfl (by kernel_rfl) (by kernel_rfl) (by kernel_rfl) (fun _ _ _ h => h) (yieldsIf_load_mid (by rfl) _ _ rfl _ _ rfl _ _ ?hS3n13 Tryz.underlying29 rfl HIX.out) (by assumption) ?rest3n13
      case hS3n13 =>
        intro w' hSw
        exact hSw.1
      try simp only [Act.put, List.getElem_toArray, List.getElem_cons_succ, List.getElem_cons_zero, List.setIfInBounds_toArray, List.set_cons_zero, List.set_cons_succ]
      refine' wpAnyH_take (i := 4) (oi := _) (v := _) rfl (by kernel_rfl) (by kernel_rfl) (by kernel_rfl) (fun _ _ _ h => h) (yieldsIf_load_mid (by rfl) _ _ rfl _ _ rfl _ _ ?hS4n14 Tryz.underlying29 rfl HID.out) (by assumption) ?rest4n14
      case hS4n14 =>
        intro w' hSw
        exact hSw.2
      try simp only [Act.put, List.getElem_toArray, List.getElem_cons_succ, List.getElem_cons_zero, List.setIfInBounds_toArray, List.set_cons_zero, List.set_cons_succ]
      refine wpAnyH_take (i := 5) (oi := _) (v := ?v5n15) rfl (by kernel_rfl) (by kernel_rfl) (by kernel_rfl) (fun _ _ _ h => h) (Or.inl ⟨by rfl, ?hy5n15⟩) (by assumption) ?rest5n15
      case hy5n15 =>
        intro w' hSw
        go_simp
        try with_reducible rfl
      try simp only [Act.put, List.getElem_toArray, List.getElem_cons_succ, List.getElem_cons_zero, List.setIfInBounds_toArray, List.set_cons_zero, List.set_cons_succ]
      refine wpAnyH_done (by kernel_rfl) ?_ _
      clear hHeld
      cases c
      · go_wp2_with fail
        go_roundw
        case rel =>
          refine ⟨k + 1, by omega, by go_num, ?_, HB1⟩
          show d ∉ a.take (k + 1)
          rw [List.take_add_one, HXX.out]
          intro hm
          rcases List.mem_append.1 hm with hm | hm
          · exact HT.out hm
          · exact of_decide_eq_false HC.out (Eq.symm (by simpa using hm))
        case measure => simp [intOf]; omega
      · have HM : Hid (decide (d ∈ a) = true) := by
          show _ = _
          rw [← of_decide_eq_true HC.out]
          exact decide_eq_true (List.mem_of_getElem? HXX.out)
        go_wp2_with fail
        go_ret
        exact ⟨ret_boolG HM.out.symm, HB2.out⟩
    · obtain rfl : k = n1 := by omega
      have hd : decide ((k : Int) < (k : Int)) = false := by simp
      have HM : Hid (decide (d ∈ a) = false) := by
        show _ = _
        have h1 := HT.out
        rw [List.take_of_length_le (by rw [HA.out.len]; exact Nat.le_refl _)] at h1
        exact decide_eq_false h1
      go_wp2_with fail
      go_ret
      exact ⟨ret_boolG HM.out.symm, HBW.out⟩
set_option maxRecDepth 100000 in
/-- append(own, list...) -/
theorem wp_append_dgs {w : World} {o : Oper} {a : Act} {K : Act → World → Prop} {Q : Exit → Act → World → Prop} (s x : Operand)
    (ho : o.op = .call { callee := .builtin .append, args := #[s, x], argTypes := #[25, 25] }) (base : Nat) (v : Value) (l : List (List Int)) (n : Nat) (hn : n = l.length) (hs : a.eval s = v) (hown : OwnDg w base v l)
    (sp2 : Option Addr) (m cap2 B : Nat) (l2 : List (List Int)) (hx : a.eval x = .slice sp2 m cap2) (hsrc : DigsIn w B sp2 m cap2 l2) (hnil : sp2 = none → cap2 = 0) (hlen : n + m ≤ 100000000) (hbase : base ≤ w.heap.size)
    (h : ∀ sp cap w', Hid (OwnDg w' base (.slice sp (n + m) cap) (l ++ l2)) → Hid (Below base w w') → Hid (w.grownBy w' v.ownBlock) → K (a.put o.dst (.slice sp (n + m) cap)) w') : o.wp Tryz.prog a w K Q := by
  subst hn
  obtain ⟨i0, hi0, hz0, hz1, hz2⟩ := info_parts infoD3
  have hl2 := hsrc.len
  cases sp2 with
  | none =>
    have hm : m = 0 := by
      by_cases h0 : 0 < m
      · obtain ⟨_, _, e, _⟩ := hsrc.cells h0; cases e
      · omega
    subst hm
    have e2 : l2 = [] := List.eq_nil_of_length_eq_zero hl2
    subst e2
    rw [hnil rfl] at hx
    have hrun := run_append_owned_none (P := Tryz.prog) (w := w) base 25 o.type 29 i0 32 Tryz.underlying25 hi0 v l.length _ hown.1
    obtain ⟨sp, cap, rfl⟩ := own_shapeG hown.1
    unfold Oper.wp
    simp [execOp, ho, resolve, invoke, builtin, hs, hx, hrun, Result.andThen]
    exact h sp cap w (by show OwnDg _ _ _ _; simpa using hown) (Below.refl _ _) (World.grownBy.refl _ _)
  | some ad =>
    refine wp_append_own w s x _ ho base _ i0 _ 32 32 Tryz.underlying25 hi0 hz0 hz1 hz2 rfl (by decide) v l.length _ hs hown.1 ad m cap2 (rowsDg l2) hx (by rw [← hl2]; exact flat_lenG (fun d : List Int => d.map (Value.int .u8)) 32 l2 (fun z hz => by rw [List.length_map, (hsrc.d32 z hz).1])) ?_ (fun u hu => by
      obtain ⟨y, _, hy⟩ := List.mem_flatMap.1 hu
      exact one_map _ _ u hy) (by unfold maxLen; omega) (by omega) hbase ?_
    · intro j u hj
      obtain ⟨y, h1, h2⟩ := flat_getG (fun d : List Int => d.map (Value.int .u8)) 32 (by decide) l2 (fun z hz => by rw [List.length_map, (hsrc.d32 z hz).1]) j u hj
      have hlt := (List.getElem?_eq_some_iff.1 h1).1
      obtain ⟨b, off, e, _, _, hr⟩ := hsrc.at (by omega)
      injection e with e; subst e
      have := hr _ y h1 _ u h2
      rw [Addr.add_mid]
      rw [show off + j = off + j / 32 * 32 + j % 32 by omega]
      exact this
    · intro v' w' h1 h2 _
      obtain ⟨sp, cap, rfl⟩ := own_shapeG h1
      refine h sp cap w' ⟨by rw [rowsDg_append, List.length_append, hl2]; exact h1, fun z hz => ?_⟩ ((Below.refl base w).grown h2 hbase (own_baseG hown.1)) h2
      rcases List.mem_append.1 hz with hz | hz
      · exact hown.2 z hz
      · exact hsrc.d32 z hz
/-- what Add makes of a list -/
def addL (l : List (List Int)) (d : List Int) (T : List (List Int)) : Prop := (d ∈ l ∧ T = l) ∨ (d ∉ l ∧ ∃ k, (∀ y ∈ l.take k, dls y d = true) ∧ (∀ y, l[k]? = some y → dls y d = false) ∧ T = l.take k ++ d :: l.drop k)
set_option maxRecDepth 100000 in
set_option maxHeartbeats 2000000 in
theorem radd_at (sp : Option Addr) (n cap : Nat) (l : List (List Int)) (d : List Int) (w : World) (hl : DigsIn w w.heap.size sp n cap l) (hnil : sp = none → cap = 0) (hx : D32 d) (hn : n ≤ 80000000) :
    Calls Tryz.prog 21 #[.slice sp n cap, .agg (d.map (Value.int .u8)).toArray] w fun e w' => ∃ sp' m cap' T, e = .returned (.slice sp' m cap') ∧ addL l d T ∧ DigsIn w' w'.heap.size sp' m cap' T ∧ (sp' = none → cap' = 0) ∧ (sp' = sp ∨ ∀ b off, sp' = some ⟨b, off, none⟩ → w.heap.size ≤ b) ∧ Below w.heap.size w w' := by
  have HL := Lib.hid hl; have HNIL := Lib.hid hnil; have HOX := Lib.hid hx
  have HIX := Lib.hid (info_d hx)
  have HNW := Lib.hid (show (w.alloc (.cells (d.map (Value.int .u8)).toArray 29)).rangeAt w.heap.size 0 (d.map (Value.int .u8)) from range_row (pre := []) (post := []) (heap_alloc_new w _) (by simp) rfl)
  clear hl hnil hx
  go_enter Tryz.func21, Tryz.ntmps21
  go_wp2_with (refine wpList_load_mid rfl 29 _ rfl w.heap.size 0 rfl _ _ HNW.out Tryz.underlying29 rfl HIX.out ?_)
  generalize hw0 : World.alloc w _ = wz
  have HXZ := Lib.hid (show wz.rangeAt w.heap.size 0 (d.map (Value.int .u8)) by rw [← hw0]; exact HNW.out)
  have HBZ := Lib.hid (show Below w.heap.size w wz by rw [← hw0]; exact (Below.refl _ _).alloc (Nat.le_refl _) _)
  have HSZ := Lib.hid (show w.heap.size + 1 ≤ wz.heap.size by rw [← hw0]; simp)
  clear hw0 HNW
  have HHAS := Lib.hid (has_anyG sp n cap l d wz (HL.out.upD HBZ.out (Nat.le_of_succ_le HSZ.out)) HOX.out (by omega))
  by_cases hin : d ∈ l
  · rw [decide_eq_true hin] at HHAS
    have HIN := Lib.hid hin; clear hin
    refine HHAS.out.mono ?_
    rintro e w1 ⟨rfl, hb1⟩
    have HB1 := Lib.hid (HBZ.out.trans (hb1.mono HBZ.out.size))
    clear hb1
    go_wp2_with fail
    go_ret
    exact ⟨sp, n, cap, l, rfl, .inl ⟨HIN.out, rfl⟩, HL.out.upD HB1.out HB1.out.size, HNIL.out, .inl rfl, HB1.out⟩
  rw [decide_eq_false hin] at HHAS
  have HNIN := Lib.hid hin; clear hin
  refine HHAS.out.mono ?_
  rintro e w0 ⟨rfl, hb1⟩
  have HX0 := Lib.hid (range_belowG HXZ.out hb1 HSZ.out)
  have HB0 := Lib.hid (HBZ.out.trans (hb1.mono HBZ.out.size))
  have HS0 := Lib.hid (Nat.le_trans HSZ.out hb1.size)
  clear hb1 HXZ HBZ HSZ HHAS
  go_wp2_with fail
  go_loopw [5, 6] (fun v i wr => ∃ (k c : Nat) (g : Option Addr), v = .slice g k c ∧ i = .int .i64 k ∧ k ≤ n ∧ Hid (OwnDg wr (w.heap.size + 1) (.slice g k c) (l.take k) ∧ (∀ y ∈ l.take k, dls y d = true) ∧ Below (w.heap.size + 1) w0 wr)) (fun _ i _ => n - (intOf i).toNat)
  case atStart => exact ⟨0, 0, none, rfl, rfl, Nat.zero_le _, OwnDg.nil _ _, fun y hy => (by simp at hy), Below.refl _ _⟩
  case round =>
    obtain ⟨k, c, gv, rfl, rfl, hk, H⟩ := hrel
    have HO := Lib.hid H.out.1; have HALL := Lib.hid H.out.2.1; have HBE := Lib.hid H.out.2.2
    clear H
    have HKL := Lib.hid (show k = (l.take k).length by rw [List.length_take, HL.out.len]; omega)
    have p1 : (0 : Int) ≤ (k : Int) := by omega
    have q0 : IntKind.i64.wrap (k : Int) = (k : Int) := IntWalk.i64_in _ (by omega)
    by_cases hlt : k < n
    · have hd : decide ((k : Int) < (n : Int)) = true := by simp; omega
      have p2 : (k : Int) < (n : Int) := by omega
      obtain ⟨b, off, rfl, hbB, hcap, hr⟩ := HL.out.at (by omega)
      obtain ⟨y, hy⟩ : ∃ y, l[k]? = some y := ⟨l[k]'(by have := HL.out.len; omega), List.getElem?_eq_getElem _⟩
      have HYM := Lib.hid (List.mem_of_getElem? hy)
      have HYR := Lib.hid (hr k y hy)
      have HBB := Lib.hid hbB
      have HOY := Lib.hid (HL.out.d32 y HYM.out)
      have HIY := Lib.hid (info_d HOY.out)
      have HT := Lib.hid (show l.take (k + 1) = l.take k ++ [y] by rw [List.take_add_one, hy]; rfl)
      have HYX := Lib.hid hy
      have hCC : ∀ w', Calls Tryz.prog 39 #[.agg (y.map (Value.int .u8)).toArray, .agg (d.map (Value.int .u8)).toArray] w' fun e w'' => e = .returned (.bool (dls y d)) ∧ Below w'.heap.size w' w'' := fun w' => less_any y d w' HOY.out HOX.out
      clear hr hy
      cases hdl : dls y d
      · rw [hdl] at hCC
        have HSTOP := Lib.hid (show ∀ z, l[k]? = some z → dls z d = false from fun z hz => by rw [HYX.out] at hz; injection hz with hz; rw [← hz]; exact hdl)
        clear hdl
        go_wp2_with fail
        refine wp_region_held_drew (S := fun w' => Below (w.heap.size + 1) w0 w') (by kernel_rfl) HBE.out.drew (fun hHeld => ?_)
        refine wpAnyH_take (i := 0) (oi := _) (v := ?v0n1) rfl (by kernel_rfl) (by kernel_rfl) (by kernel_rfl) (fun _ _ _ h => h) (Or.inl ⟨by rfl, ?hy0n1⟩) (by assumption) ?rest0n1
        case hy0n1 =>
          intro w' hSw
          go_simp
          try with_reducible rfl
        try simp only [Act.put, List.getElem_toArray, List.getElem_cons_succ, List.getElem_cons_zero, List.setIfInBounds_toArray, List.set_cons_zero, List.set_cons_succ]
        refine wpAnyH_take (i := 1) (oi := _) (v := ?v1n2) rfl (by kernel_rfl) (by kernel_rfl) (by kernel_rfl) (fun _ _ _ h => h) (Or.inl ⟨by rfl, ?hy1n2⟩) (by assumption) ?rest1n2
        case hy1n2 =>
          intro w' hSw
          go_simp
          try with_reducible rfl
        try simp only [Act.put, List.getElem_toArray, List.getElem_cons_succ, List.getElem_cons_zero, List.setIfInBounds_toArray, List.set_cons_zero, List.set_cons_succ]
        refine wpAnyH_take (i := 2) (oi := _) (v := ?v2n3) rfl (by kernel_rfl) (by kernel_rfl) (by kernel_rfl) (fun _ _ _ h => h) (Or.inl ⟨by rfl, ?hy2n3⟩) (by assumption) ?rest2n3
        case hy2n3 =>
          intro w' hSw
          go_simp
          try with_reducible rfl
        try simp only [Act.put, List.getElem_toArray, List.getElem_cons_succ, List.getElem_cons_zero, List.setIfInBounds_toArray, List.set_cons_zero, List.set_cons_succ]
        refine wpAnyH_take (i := 3) (oi := _) (v := ?v3n4) rfl (by kernel_rfl) (by kernel_rfl) (by kernel_rfl) (fun _ _ _ h => h) (Or.inl ⟨by rfl, ?hy3n4⟩) (by assumption) ?rest3n4
        case hy3n4 =>
          intro w' hSw
          go_simp
          try with_reducible rfl
        try simp only [Act.put, List.getElem_toArray, List.getElem_cons_succ, List.getElem_cons_zero, List.setIfInBounds_toArray, List.set_cons_zero, List.set_cons_succ]
        refine wpAnyH_take (i := 4) (oi := _) (v := ?v4n5) rfl (by kernel_rfl) (by kernel_rfl) (by kernel_rfl) (fun _ _ _ h => h) (Or.inl ⟨by rfl, ?hy4n5⟩) (by assumption) ?rest4n5
        case hy4n5 =>
          intro w' hSw
          go_simp
          try with_reducible rfl
        try simp only [Act.put, List.getElem_toArray, List.getElem_cons_succ, List.getElem_cons_zero, List.setIfInBounds_toArray, List.set_cons_zero, List.set_cons_succ]
        refine wpAnyH_take (i := 5) (oi := _) (v := ?v5n6) rfl (by kernel_rfl) (by kernel_rfl) (by kernel_rfl) (fun _ _ _ h => h) (Or.inl ⟨by rfl, ?hy5n6⟩) (by assumption) ?rest5n6
        case hy5n6 =>
          intro w' hSw
          go_simp
          try with_reducible rfl
        try simp only [Act.put, List.getElem_toArray, List.getElem_cons_succ, List.getElem_cons_zero, List.setIfInBounds_toArray, List.set_cons_zero, List.set_cons_succ]
        refine wpAnyH_take (i := 6) (oi := _) (v := ?v6n7) rfl (by kernel_rfl) (by kernel_rfl) (by kernel_rfl) (fun _ _ _ h => h) (Or.inl ⟨by rfl, ?hy6n7⟩) (by assumption) ?rest6n7
        case hy6n7 =>
          intro w' hSw
          go_simp
          try with_reducible rfl
        try simp only [Act.put, List.getElem_toArray, List.getElem_cons_succ, List.getElem_cons_zero, List.setIfInBounds_toArray, List.set_cons_zero, List.set_cons_succ]
        refine wpAnyH_take (i := 7) (oi := _) (v := ?v7n8) rfl (by kernel_rfl) (by kernel_rfl) (by kernel_rfl) (fun _ _ _ h => h) (Or.inl ⟨by rfl, ?hy7n8⟩) (by assumption) ?rest7n8
        case hy7n8 =>
          intro w' hSw
          go_simp
          try with_reducible rfl
        try simp only [Act.put, List.getElem_toArray, List.getElem_cons_succ, List.getElem_cons_zero, List.setIfInBounds_toArray, List.set_cons_zero, List.set_cons_succ]
        refine' wpAnyH_take (i := 8) (oi := _) (v := _) rfl (by kernel_rfl) (by kernel_rfl) (by kernel_rfl) (fun _ _ _ h => h) (yieldsIf_load_mid (by rfl) _ _ rfl _ _ rfl _ _ ?hS8n9 Tryz.underlying29 rfl HIY.out) (by assumption) ?rest8n9
        case hS8n9 =>
          intro w' hSw
          exact (range_belowG HYR.out (HB0.out.trans (hSw.mono (Nat.le_succ _))) HBB.out)
        try simp only [Act.put, List.getElem_toArray, List.getElem_cons_succ, List.getElem_cons_zero, List.setIfInBounds_toArray, List.set_cons_zero, List.set_cons_succ]
        refine' wpAnyH_take (i := 9) (oi := _) (v := _) rfl (by kernel_rfl) (by kernel_rfl) (by kernel_rfl) (fun _ _ _ h => h) (yieldsIf_load_mid (by rfl) _ _ rfl _ _ rfl _ _ ?hS9n10 Tryz.underlying29 rfl HIX.out) (by assumption) ?rest9n10
        case hS9n10 =>
          intro w' hSw
          exact (range_belowG HX0.out hSw (Nat.lt_succ_self _))
        try simp only [Act.put, List.getElem_toArray, List.getElem_cons_succ, List.getElem_cons_zero, List.setIfInBounds_toArray, List.set_cons_zero, List.set_cons_succ]
        refine wpAnyH_ready (rs := [10]) (by kernel_rfl) (by simp) (AllReadyH.cons (o := _) rfl (fun K hK => ?_) AllReadyH.nil)
        go_simp
        with_reducible refine (hCC _).mono ?_
        rintro e wd ⟨rfl, hb3⟩
        have HBD := Lib.hid (HBE.out.drew.trans (hb3.mono (Nat.le_trans HS0.out HBE.out.size)))
        have HOW := Lib.hid ((HO.out.below ((Below.refl wr.heap.size wr).drew)).below hb3)
        go_wp2_with fail
        refine hK.out _ _ (HBE.out.drew.trans (hb3.mono (Nat.le_trans HS0.out HBE.out.size))) (fun hHeld => ?_)
        clear hK K
        try simp only [Act.put, List.getElem_toArray, List.getElem_cons_succ, List.getElem_cons_zero, List.setIfInBounds_toArray, List.set_cons_zero, List.set_cons_succ]
        refine wpAnyH_take (i := 11) (oi := _) (v := ?v11n11) rfl (by kernel_rfl) (by kernel_rfl) (by kernel_rfl) (fun _ _ _ h => h) (Or.inl ⟨by rfl, ?hy11n11⟩) (by assumption) ?rest11n11
        case hy11n11 =>
          intro w' hSw
          go_simp
          try with_reducible rfl
        try simp only [Act.put, List.getElem_toArray, List.getElem_cons_succ, List.getElem_cons_zero, List.setIfInBounds_toArray, List.set_cons_zero, List.set_cons_succ]
        refine wpAnyH_done (by kernel_rfl) ?_ _
        clear hHeld
        go_wp2_with fail
        have HOD := Lib.hid HOW.out
        have HSD := Lib.hid (show w.heap.size + 1 ≤ wd.heap.size from Nat.le_trans HS0.out HBD.out.size)
        refine wp_region_held_drew (S := fun w' => Below (w.heap.size + 1) w0 w') (by kernel_rfl) (HBD.out.drew) (fun hHeld => ?_)
        refine wpAnyH_take (i := 0) (oi := _) (v := ?v0n23) rfl (by kernel_rfl) (by kernel_rfl) (by kernel_rfl) (fun _ _ _ h => h) (Or.inl ⟨by rfl, ?hy0n23⟩) (by assumption) ?rest0n23
        case hy0n23 =>
          intro w' hSw
          go_simp
          try with_reducible rfl
        try simp only [Act.put, List.getElem_toArray, List.getElem_cons_succ, List.getElem_cons_zero, List.setIfInBounds_toArray, List.set_cons_zero, List.set_cons_succ]
        refine' wpAnyH_take (i := 1) (oi := _) (v := _) rfl (by kernel_rfl) (by kernel_rfl) (by kernel_rfl) (fun _ _ _ h => h) (yieldsIf_load_mid (by rfl) _ _ rfl _ _ rfl _ _ ?hS1n24 Tryz.underlying29 rfl HIX.out) (by assumption) ?rest1n24
        case hS1n24 =>
          intro w' hSw
          exact (range_belowG HX0.out hSw (Nat.lt_succ_self _))
        try simp only [Act.put, List.getElem_toArray, List.getElem_cons_succ, List.getElem_cons_zero, List.setIfInBounds_toArray, List.set_cons_zero, List.set_cons_succ]
        refine wpAnyH_take (i := 4) (oi := _) (v := ?v4n25) rfl (by kernel_rfl) (by kernel_rfl) (by kernel_rfl) (fun _ _ _ h => h) (Or.inl ⟨by rfl, ?hy4n25⟩) (by assumption) ?rest4n25
        case hy4n25 =>
          intro w' hSw
          go_simp
          try with_reducible rfl
        try simp only [Act.put, List.getElem_toArray, List.getElem_cons_succ, List.getElem_cons_zero, List.setIfInBounds_toArray, List.set_cons_zero, List.set_cons_succ]
        refine wpAnyH_take (i := 5) (oi := _) (v := ?v5n26) rfl (by kernel_rfl) (by kernel_rfl) (by kernel_rfl) (fun _ _ _ h => h) (Or.inl ⟨by rfl, ?hy5n26⟩) (by assumption) ?rest5n26
        case hy5n26 =>
          intro w' hSw
          go_simp
          try with_reducible rfl
        try simp only [Act.put, List.getElem_toArray, List.getElem_cons_succ, List.getElem_cons_zero, List.setIfInBounds_toArray, List.set_cons_zero, List.set_cons_succ]
        refine' wpAnyH_take (i := 6) (oi := _) (v := _) rfl (by kernel_rfl) (by kernel_rfl) (by kernel_rfl) (fun _ _ _ h => h) (yieldsIf_fromD (by rfl) _ _ rfl (some ⟨b, off, none⟩) n cap k rfl rfl hk) (by assumption) ?rest6n27
        try simp only [Act.put, List.getElem_toArray, List.getElem_cons_succ, List.getElem_cons_zero, List.setIfInBounds_toArray, List.set_cons_zero, List.set_cons_succ]
        refine wpAnyH_ready (rs := [2]) (by kernel_rfl) (by simp) (AllReadyH.cons (o := _) rfl (fun K hK => ?_) AllReadyH.nil)
        rw [if_pos (by rfl)]
        refine wp_slice_eqB 25 1 [(0, .tmp 33)] rfl [(0, .agg (dv d))] rfl _ _ (sliceDg _ d HOX.out) ?_
        have HZ3 := Lib.hid (show (wd.drew.alloc (.cells (dv d) 29)).rangeAt wd.heap.size 0 (d.map (Value.int .u8)) from range_row (pre := []) (post := []) (heap_alloc_new wd.drew _) (by simp [dv]) rfl)
        have HZL := Lib.hid (show wd.heap.size < (wd.drew.alloc (.cells (dv d) 29)).heap.size by simp)
        have HB3 := Lib.hid (HBD.out.drew.alloc HSD.out (.cells (dv d) 29))
        have HO3 := Lib.hid (HOD.out.below ((Below.refl wd.heap.size wd).drew.alloc (Nat.le_refl _) (.cells (dv d) 29)))
        generalize World.alloc wd.drew _ = w3 at *
        have HB1 := Lib.hid (DigsIn.one HZ3.out HZL.out HOX.out)
        refine hK.out _ _ HB3.out (fun hHeld => ?_)
        clear hK K
        try simp only [Act.put, List.getElem_toArray, List.getElem_cons_succ, List.getElem_cons_zero, List.setIfInBounds_toArray, List.set_cons_zero, List.set_cons_succ]
        refine wpAnyH_ready (rs := [3]) (by kernel_rfl) (by simp) (AllReadyH.cons (o := _) rfl (fun K hK => ?_) AllReadyH.nil)
        rw [if_pos (by rfl)]
        refine wp_append_dgs (.tmp 32) (.tmp 34) rfl (w.heap.size + 1) _ (l.take k) k HKL.out rfl HO3.out (some ⟨wd.heap.size, 0, none⟩) 1 1 _ [d] rfl HB1.out (fun h => (by cases h)) (by omega) (Nat.le_trans HS0.out HB3.out.size) ?_
        intro sp4 c4 w4 HO4 HB4 HG4
        have HB5 := Lib.hid (HB3.out.trans HB4.out)
        refine hK.out _ _ HB5.out (fun hHeld => ?_)
        clear hK K
        try simp only [Act.put, List.getElem_toArray, List.getElem_cons_succ, List.getElem_cons_zero, List.setIfInBounds_toArray, List.set_cons_zero, List.set_cons_succ]
        refine wpAnyH_ready (rs := [7]) (by kernel_rfl) (by simp) (AllReadyH.cons (o := _) rfl (fun K hK => ?_) AllReadyH.nil)
        rw [if_pos (by rfl)]
        refine wp_append_dgs (.tmp 35) (.tmp 38) rfl (w.heap.size + 1) _ (l.take k ++ [d]) (k + 1) (by rw [List.length_append, ← HKL.out]; rfl) rfl HO4.out _ (n - k) (cap - k) _ _ rfl ((HL.out.below (HB0.out.trans (HB5.out.mono (Nat.le_succ _))) (Nat.le_refl _)).cutD hk) (by rw [slD_none]; exact fun h => by rw [HNIL.out h]; simp) (by omega) (Nat.le_trans HS0.out HB5.out.size) ?_
        intro sp6 c6 w6 HO6 HB6 HG6
        have HB7 := Lib.hid (HB5.out.trans HB6.out)
        refine hK.out _ _ HB7.out (fun hHeld => ?_)
        clear hK K
        try simp only [Act.put, List.getElem_toArray, List.getElem_cons_succ, List.getElem_cons_zero, List.setIfInBounds_toArray, List.set_cons_zero, List.set_cons_succ]
        refine wpAnyH_take (i := 8) (oi := _) (v := ?v8n28) rfl (by kernel_rfl) (by kernel_rfl) (by kernel_rfl) (fun _ _ _ h => h) (Or.inl ⟨by rfl, ?hy8n28⟩) (by assumption) ?rest8n28
        case hy8n28 =>
          intro w' hSw
          go_simp
          try with_reducible rfl
        try simp only [Act.put, List.getElem_toArray, List.getElem_cons_succ, List.getElem_cons_zero, List.setIfInBounds_toArray, List.set_cons_zero, List.set_cons_succ]
        refine wpAnyH_done (by kernel_rfl) ?_ _
        clear hHeld
        have HKN := Lib.hid (show k + 1 + (n - k) = n + 1 by omega)
        have HO8 := Lib.hid (show OwnDg w6 w.heap.size (.slice sp6 (k + 1 + (n - k)) c6) (l.take k ++ d :: l.drop k) by have := HO6.out.base (Nat.le_succ w.heap.size); rw [List.append_assoc] at this; exact this)
        have HL8 := Lib.hid (show (l.take k ++ d :: l.drop k).length = k + 1 + (n - k) by
          have h1 : (l.take k).length + (l.drop k).length = l.length := by rw [← List.length_append, List.take_append_drop]
          rw [List.length_append, List.length_cons]; have := HL.out.len; omega)
        go_wp2_with fail
        go_ret
        exact ⟨sp6, _, c6, _, rfl, .inr ⟨HNIN.out, k, HALL.out, HSTOP.out, rfl⟩, HO8.out.digs HL8.out, HO8.out.nilcap, .inr (own_blk HO8.out), HB0.out.trans (HB7.out.mono (Nat.le_succ _))⟩
      · rw [hdl] at hCC
        have HALL2 := Lib.hid (show ∀ z ∈ l.take (k + 1), dls z d = true by
          rw [HT.out]; intro z hz
          rcases List.mem_append.1 hz with hz | hz
          · exact HALL.out z hz
          · rw [List.mem_singleton.1 hz]; exact hdl)
        clear hdl
        go_wp2_with fail
        refine wp_region_held_drew (S := fun w' => Below (w.heap.size + 1) w0 w') (by kernel_rfl) HBE.out.drew (fun hHeld => ?_)
        refine wpAnyH_take (i := 0) (oi := _) (v := ?v0n12) rfl (by kernel_rfl) (by kernel_rfl) (by kernel_rfl) (fun _ _ _ h => h) (Or.inl ⟨by rfl, ?hy0n12⟩) (by assumption) ?rest0n12
        case hy0n12 =>
          intro w' hSw
          go_simp
          try with_reducible rfl
        try simp only [Act.put, List.getElem_toArray, List.getElem_cons_succ, List.getElem_cons_zero, List.setIfInBounds_toArray, List.set_cons_zero, List.set_cons_succ]
        refine wpAnyH_take (i := 1) (oi := _) (v := ?v1n13) rfl (by kernel_rfl) (by kernel_rfl) (by kernel_rfl) (fun _ _ _ h => h) (Or.inl ⟨by rfl, ?hy1n13⟩) (by assumption) ?rest1n13
        case hy1n13 =>
          intro w' hSw
          go_simp
          try with_reducible rfl
        try simp only [Act.put, List.getElem_toArray, List.getElem_cons_succ, List.getElem_cons_zero, List.setIfInBounds_toArray, List.set_cons_zero, List.set_cons_succ]
        refine wpAnyH_take (i := 2) (oi := _) (v := ?v2n14) rfl (by kernel_rfl) (by kernel_rfl) (by kernel_rfl) (fun _ _ _ h => h) (Or.inl ⟨by rfl, ?hy2n14⟩) (by assumption) ?rest2n14
        case hy2n14 =>
          intro w' hSw
          go_simp
          try with_reducible rfl
        try simp only [Act.put, List.getElem_toArray, List.getElem_cons_succ, List.getElem_cons_zero, List.setIfInBounds_toArray, List.set_cons_zero, List.set_cons_succ]
        refine wpAnyH_take (i := 3) (oi := _) (v := ?v3n15) rfl (by kernel_rfl) (by kernel_rfl) (by kernel_rfl) (fun _ _ _ h => h) (Or.inl ⟨by rfl, ?hy3n15⟩) (by assumption) ?rest3n15
        case hy3n15 =>
          intro w' hSw
          go_simp
          try with_reducible rfl
        try simp only [Act.put, List.getElem_toArray, List.getElem_cons_succ, List.getElem_cons_zero, List.setIfInBounds_toArray, List.set_cons_zero, List.set_cons_succ]
        refine wpAnyH_take (i := 4) (oi := _) (v := ?v4n16) rfl (by kernel_rfl) (by kernel_rfl) (by kernel_rfl) (fun _ _ _ h => h) (Or.inl ⟨by rfl, ?hy4n16⟩) (by assumption) ?rest4n16
        case hy4n16 =>
          intro w' hSw
          go_simp
          try with_reducible rfl
        try simp only [Act.put, List.getElem_toArray, List.getElem_cons_succ, List.getElem_cons_zero, List.setIfInBounds_toArray, List.set_cons_zero, List.set_cons_succ]
        refine wpAnyH_take (i := 5) (oi := _) (v := ?v5n17) rfl (by kernel_rfl) (by kernel_rfl) (by kernel_rfl) (fun _ _ _ h => h) (Or.inl ⟨by rfl, ?hy5n17⟩) (by assumption) ?rest5n17
        case hy5n17 =>
          intro w' hSw
          go_simp
          try with_reducible rfl
        try simp only [Act.put, List.getElem_toArray, List.getElem_cons_succ, List.getElem_cons_zero, List.setIfInBounds_toArray, List.set_cons_zero, List.set_cons_succ]
        refine wpAnyH_take (i := 6) (oi := _) (v := ?v6n18) rfl (by kernel_rfl) (by kernel_rfl) (by kernel_rfl) (fun _ _ _ h => h) (Or.inl ⟨by rfl, ?hy6n18⟩) (by assumption) ?rest6n18
        case hy6n18 =>
          intro w' hSw
          go_simp
          try with_reducible rfl
        try simp only [Act.put, List.getElem_toArray, List.getElem_cons_succ, List.getElem_cons_zero, List.setIfInBounds_toArray, List.set_cons_zero, List.set_cons_succ]
        refine wpAnyH_take (i := 7) (oi := _) (v := ?v7n19) rfl (by kernel_rfl) (by kernel_rfl) (by kernel_rfl) (fun _ _ _ h => h) (Or.inl ⟨by rfl, ?hy7n19⟩) (by assumption) ?rest7n19
        case hy7n19 =>
          intro w' hSw
          go_simp
          try with_reducible rfl
        try simp only [Act.put, List.getElem_toArray, List.getElem_cons_succ, List.getElem_cons_zero, List.setIfInBounds_toArray, List.set_cons_zero, List.set_cons_succ]
        refine' wpAnyH_take (i := 8) (oi := _) (v := _) rfl (by kernel_rfl) (by kernel_rfl) (by kernel_rfl) (fun _ _ _ h => h) (yieldsIf_load_mid (by rfl) _ _ rfl _ _ rfl _ _ ?hS8n20 Tryz.underlying29 rfl HIY.out) (by assumption) ?rest8n20
        case hS8n20 =>
          intro w' hSw
          exact (range_belowG HYR.out (HB0.out.trans (hSw.mono (Nat.le_succ _))) HBB.out)
        try simp only [Act.put, List.getElem_toArray, List.getElem_cons_succ, List.getElem_cons_zero, List.setIfInBounds_toArray, List.set_cons_zero, List.set_cons_succ]
        refine' wpAnyH_take (i := 9) (oi := _) (v := _) rfl (by kernel_rfl) (by kernel_rfl) (by kernel_rfl) (fun _ _ _ h => h) (yieldsIf_load_mid (by rfl) _ _ rfl _ _ rfl _ _ ?hS9n21 Tryz.underlying29 rfl HIX.out) (by assumption) ?rest9n21
        case hS9n21 =>
          intro w' hSw
          exact (range_belowG HX0.out hSw (Nat.lt_succ_self _))
        try simp only [Act.put, List.getElem_toArray, List.getElem_cons_succ, List.getElem_cons_zero, List.setIfInBounds_toArray, List.set_cons_zero, List.set_cons_succ]
        refine wpAnyH_ready (rs := [10]) (by kernel_rfl) (by simp) (AllReadyH.cons (o := _) rfl (fun K hK => ?_) AllReadyH.nil)
        go_simp
        with_reducible refine (hCC _).mono ?_
        rintro e wd ⟨rfl, hb3⟩
        have HBD := Lib.hid (HBE.out.drew.trans (hb3.mono (Nat.le_trans HS0.out HBE.out.size)))
        have HOW := Lib.hid ((HO.out.below ((Below.refl wr.heap.size wr).drew)).below hb3)
        go_wp2_with fail
        refine hK.out _ _ (HBE.out.drew.trans (hb3.mono (Nat.le_trans HS0.out HBE.out.size))) (fun hHeld => ?_)
        clear hK K
        try simp only [Act.put, List.getElem_toArray, List.getElem_cons_succ, List.getElem_cons_zero, List.setIfInBounds_toArray, List.set_cons_zero, List.set_cons_succ]
        refine wpAnyH_take (i := 11) (oi := _) (v := ?v11n22) rfl (by kernel_rfl) (by kernel_rfl) (by kernel_rfl) (fun _ _ _ h => h) (Or.inl ⟨by rfl, ?hy11n22⟩) (by assumption) ?rest11n22
        case hy11n22 =>
          intro w' hSw
          go_simp
          try with_reducible rfl
        try simp only [Act.put, List.getElem_toArray, List.getElem_cons_succ, List.getElem_cons_zero, List.setIfInBounds_toArray, List.set_cons_zero, List.set_cons_succ]
        refine wpAnyH_done (by kernel_rfl) ?_ _
        clear hHeld
        have HYD := Lib.hid (range_belowG HYR.out (HB0.out.trans (HBD.out.mono (Nat.le_succ _))) HBB.out)
        go_wp2_with (first
          | (refine wpList_load_mid rfl 29 _ rfl b (off + k * 32) rfl _ _ HYD.out Tryz.underlying29 rfl HIY.out ?_)
          | (refine wpList_slice_eqG rfl 25 1 [(0, .tmp 27)] rfl [(0, .agg (dv y))] rfl _ _ (sliceDg _ y HOY.out) ?_; have HZ4 := Lib.hid (show (wd.alloc (.cells (dv y) 29)).rangeAt wd.heap.size 0 (y.map (Value.int .u8)) from range_row (pre := []) (post := []) (heap_alloc_new wd _) (by simp [dv]) rfl); have HO4 := Lib.hid (HOW.out.below ((Below.refl wd.heap.size wd).alloc (Nat.le_refl _) (.cells (dv y) 29))); have HB4 := Lib.hid (HBD.out.alloc (Nat.le_trans HS0.out HBD.out.size) (.cells (dv y) 29)); generalize World.alloc wd _ = w4 at *)
          | (at_builtin; refine wpList_append_dgG rfl (.tmp 23) (.tmp 28) rfl (w.heap.size + 1) _ (l.take k) k HKL.out rfl HO4.out wd.heap.size y rfl HZ4.out HOY.out (by omega) (Nat.le_trans HS0.out HB4.out.size) ?_; intro sp5 cap5 w5 HO5 HB5 HG5))
        have HB6 := Lib.hid (HB4.out.trans HB5.out)
        go_roundw
        case rel => exact ⟨k + 1, cap5, sp5, rfl, by go_num, by omega, by rw [HT.out]; exact HO5.out, HALL2.out, HB6.out⟩
        case measure => simp [intOf]; omega
    · have hkn : k = n := by omega
      have hd : decide ((k : Int) < (n : Int)) = false := by simp; omega
      have HSTOP := Lib.hid (show ∀ z, l[k]? = some z → dls z d = false from fun z hz => by rw [List.getElem?_eq_none (by have := HL.out.len; omega)] at hz; cases hz)
      clear hkn
      go_wp2_with fail
      go_quiet (fail)
      have HBD := Lib.hid (HBE.out.trans (show Below (w.heap.size + 1) wr (World.drewN wr nq) from ⟨rfl, rfl, rfl, Nat.le_refl _, fun _ _ => rfl⟩))
      have HOW := Lib.hid (HO.out.below (show Below wr.heap.size wr (World.drewN wr nq) from ⟨rfl, rfl, rfl, Nat.le_refl _, fun _ _ => rfl⟩))
      generalize World.drewN wr nq = wd at *
      go_wp2_with fail
      have HOD := Lib.hid HOW.out
      have HSD := Lib.hid (show w.heap.size + 1 ≤ wd.heap.size from Nat.le_trans HS0.out HBD.out.size)
      refine wp_region_held_drew (S := fun w' => Below (w.heap.size + 1) w0 w') (by kernel_rfl) (HBD.out.drew) (fun hHeld => ?_)
      refine wpAnyH_take (i := 0) (oi := _) (v := ?v0n29) rfl (by kernel_rfl) (by kernel_rfl) (by kernel_rfl) (fun _ _ _ h => h) (Or.inl ⟨by rfl, ?hy0n29⟩) (by assumption) ?rest0n29
      case hy0n29 =>
        intro w' hSw
        go_simp
        try with_reducible rfl
      try simp only [Act.put, List.getElem_toArray, List.getElem_cons_succ, List.getElem_cons_zero, List.setIfInBounds_toArray, List.set_cons_zero, List.set_cons_succ]
      refine' wpAnyH_take (i := 1) (oi := _) (v := _) rfl (by kernel_rfl) (by kernel_rfl) (by kernel_rfl) (fun _ _ _ h => h) (yieldsIf_load_mid (by rfl) _ _ rfl _ _ rfl _ _ ?hS1n30 Tryz.underlying29 rfl HIX.out) (by assumption) ?rest1n30
      case hS1n30 =>
        intro w' hSw
        exact (range_belowG HX0.out hSw (Nat.lt_succ_self _))
      try simp only [Act.put, List.getElem_toArray, List.getElem_cons_succ, List.getElem_cons_zero, List.setIfInBounds_toArray, List.set_cons_zero, List.set_cons_succ]
      refine wpAnyH_take (i := 4) (oi := _) (v := ?v4n31) rfl (by kernel_rfl) (by kernel_rfl) (by kernel_rfl) (fun _ _ _ h => h) (Or.inl ⟨by rfl, ?hy4n31⟩) (by assumption) ?rest4n31
      case hy4n31 =>
        intro w' hSw
        go_simp
        try with_reducible rfl
      try simp only [Act.put, List.getElem_toArray, List.getElem_cons_succ, List.getElem_cons_zero, List.setIfInBounds_toArray, List.set_cons_zero, List.set_cons_succ]
      refine wpAnyH_take (i := 5) (oi := _) (v := ?v5n32) rfl (by kernel_rfl) (by kernel_rfl) (by kernel_rfl) (fun _ _ _ h => h) (Or.inl ⟨by rfl, ?hy5n32⟩) (by assumption) ?rest5n32
      case hy5n32 =>
        intro w' hSw
        go_simp
        try with_reducible rfl
      try simp only [Act.put, List.getElem_toArray, List.getElem_cons_succ, List.getElem_cons_zero, List.setIfInBounds_toArray, List.set_cons_zero, List.set_cons_succ]
      refine' wpAnyH_take (i := 6) (oi := _) (v := _) rfl (by kernel_rfl) (by kernel_rfl) (by kernel_rfl) (fun _ _ _ h => h) (yieldsIf_fromD (by rfl) _ _ rfl sp n cap k rfl rfl hk) (by assumption) ?rest6n33
      try simp only [Act.put, List.getElem_toArray, List.getElem_cons_succ, List.getElem_cons_zero, List.setIfInBounds_toArray, List.set_cons_zero, List.set_cons_succ]
      refine wpAnyH_ready (rs := [2]) (by kernel_rfl) (by simp) (AllReadyH.cons (o := _) rfl (fun K hK => ?_) AllReadyH.nil)
      rw [if_pos (by rfl)]
      refine wp_slice_eqB 25 1 [(0, .tmp 33)] rfl [(0, .agg (dv d))] rfl _ _ (sliceDg _ d HOX.out) ?_
      have HZ3 := Lib.hid (show (wd.drew.alloc (.cells (dv d) 29)).rangeAt wd.heap.size 0 (d.map (Value.int .u8)) from range_row (pre := []) (post := []) (heap_alloc_new wd.drew _) (by simp [dv]) rfl)
      have HZL := Lib.hid (show wd.heap.size < (wd.drew.alloc (.cells (dv d) 29)).heap.size by simp)
      have HB3 := Lib.hid (HBD.out.drew.alloc HSD.out (.cells (dv d) 29))
      have HO3 := Lib.hid (HOD.out.below ((Below.refl wd.heap.size wd).drew.alloc (Nat.le_refl _) (.cells (dv d) 29)))
      generalize World.alloc wd.drew _ = w3 at *
      have HB1 := Lib.hid (DigsIn.one HZ3.out HZL.out HOX.out)
      refine hK.out _ _ HB3.out (fun hHeld => ?_)
      clear hK K
      try simp only [Act.put, List.getElem_toArray, List.getElem_cons_succ, List.getElem_cons_zero, List.setIfInBounds_toArray, List.set_cons_zero, List.set_cons_succ]
      refine wpAnyH_ready (rs := [3]) (by kernel_rfl) (by simp) (AllReadyH.cons (o := _) rfl (fun K hK => ?_) AllReadyH.nil)
      rw [if_pos (by rfl)]
      refine wp_append_dgs (.tmp 32) (.tmp 34) rfl (w.heap.size + 1) _ (l.take k) k HKL.out rfl HO3.out (some ⟨wd.heap.size, 0, none⟩) 1 1 _ [d] rfl HB1.out (fun h => (by cases h)) (by omega) (Nat.le_trans HS0.out HB3.out.size) ?_
      intro sp4 c4 w4 HO4 HB4 HG4
      have HB5 := Lib.hid (HB3.out.trans HB4.out)
      refine hK.out _ _ HB5.out (fun hHeld => ?_)
      clear hK K
      try simp only [Act.put, List.getElem_toArray, List.getElem_cons_succ, List.getElem_cons_zero, List.setIfInBounds_toArray, List.set_cons_zero, List.set_cons_succ]
      refine wpAnyH_ready (rs := [7]) (by kernel_rfl) (by simp) (AllReadyH.cons (o := _) rfl (fun K hK => ?_) AllReadyH.nil)
      rw [if_pos (by rfl)]
      refine wp_append_dgs (.tmp 35) (.tmp 38) rfl (w.heap.size + 1) _ (l.take k ++ [d]) (k + 1) (by rw [List.length_append, ← HKL.out]; rfl) rfl HO4.out _ (n - k) (cap - k) _ _ rfl ((HL.out.below (HB0.out.trans (HB5.out.mono (Nat.le_succ _))) (Nat.le_refl _)).cutD hk) (by rw [slD_none]; exact fun h => by rw [HNIL.out h]; simp) (by omega) (Nat.le_trans HS0.out HB5.out.size) ?_
      intro sp6 c6 w6 HO6 HB6 HG6
      have HB7 := Lib.hid (HB5.out.trans HB6.out)
      refine hK.out _ _ HB7.out (fun hHeld => ?_)
      clear hK K
      try simp only [Act.put, List.getElem_toArray, List.getElem_cons_succ, List.getElem_cons_zero, List.setIfInBounds_toArray, List.set_cons_zero, List.set_cons_succ]
      refine wpAnyH_take (i := 8) (oi := _) (v := ?v8n34) rfl (by kernel_rfl) (by kernel_rfl) (by kernel_rfl) (fun _ _ _ h => h) (Or.inl ⟨by rfl, ?hy8n34⟩) (by assumption) ?rest8n34
      case hy8n34 =>
        intro w' hSw
        go_simp
        try with_reducible rfl
      try simp only [Act.put, List.getElem_toArray, List.getElem_cons_succ, List.getElem_cons_zero, List.setIfInBounds_toArray, List.set_cons_zero, List.set_cons_succ]
      refine wpAnyH_done (by kernel_rfl) ?_ _
      clear hHeld
      have HKN := Lib.hid (show k + 1 + (n - k) = n + 1 by omega)
      have HO8 := Lib.hid (show OwnDg w6 w.heap.size (.slice sp6 (k + 1 + (n - k)) c6) (l.take k ++ d :: l.drop k) by have := HO6.out.base (Nat.le_succ w.heap.size); rw [List.append_assoc] at this; exact this)
      have HL8 := Lib.hid (show (l.take k ++ d :: l.drop k).length = k + 1 + (n - k) by
        have h1 : (l.take k).length + (l.drop k).length = l.length := by rw [← List.length_append, List.take_append_drop]
        rw [List.length_append, List.length_cons]; have := HL.out.len; omega)
      go_wp2_with fail
      go_ret
      exact ⟨sp6, _, c6, _, rfl, .inr ⟨HNIN.out, k, HALL.out, HSTOP.out, rfl⟩, HO8.out.digs HL8.out, HO8.out.nilcap, .inr (own_blk HO8.out), HB0.out.trans (HB7.out.mono (Nat.le_succ _))⟩
theorem radd_any (sp : Option Addr) (n cap : Nat) (l : List (List Int)) (d : List Int) (w : World) (hl : DigsIn w w.heap.size sp n cap l) (hnil : sp = none → cap = 0) (hx : D32 d) (hn : n ≤ 80000000) :
    Calls Tryz.prog 21 #[.slice sp n cap, .agg (d.map (Value.int .u8)).toArray] w fun e w' => ∃ sp' m cap' T, e = .returned (.slice sp' m cap') ∧ addL l d T ∧ DigsIn w' w'.heap.size sp' m cap' T ∧ (sp' = none → cap' = 0) ∧ Below w.heap.size w w' :=
  (radd_at sp n cap l d w hl hnil hx hn).mono fun _ _ ⟨sp', m, cap', T, h1, h2, h3, h4, _, h5⟩ => ⟨sp', m, cap', T, h1, h2, h3, h4, h5⟩
end Go.Proofs.YtdjknefbaclleaaGreatDoor

namespace Go.Proofs.YtdjknefbaclleaaGreatDoor
open Go.RowKit Go.Sort

/-- what a store holds after some contents were put -/
structure KeepP (P : List Pr) (B : List (List Int)) : Prop where
  good : GoodP P
  has : ∀ b ∈ B, ∃ p ∈ P, p.1 = shb b
  frm : ∀ p ∈ P, p.2 ∈ B
  few : P.length ≤ B.length
theorem KeepP.nil : KeepP [] [] := ⟨GoodP.nil, fun b h => (by cases h), fun p h => (by cases h), Nat.le_refl _⟩
theorem KeepP.put {L T : List Bl} {x : Bl} {B : List (List Int)} (h : KeepP (L.map bp) B) (hT : putL L x T) (hd : x.d = shb x.b) (hs : x.b.length ≤ 262144) : KeepP (T.map bp) (B ++ [x.b]) := by
  rcases hT with ⟨⟨y, hy, hyd⟩, rfl⟩ | ⟨hno, k, h1, h2, rfl⟩
  · refine ⟨h.good, fun b hb => ?_, fun p hp => List.mem_append.2 (.inl (h.frm p hp)), by rw [List.length_append]; have := h.few; omega⟩
    rcases List.mem_append.1 hb with hb | hb
    · exact h.has b hb
    · rw [List.mem_singleton.1 hb]; exact ⟨bp y, List.mem_map_of_mem hy, hyd.trans hd⟩
  · have hmem : ∀ z, z ∈ L.take k ++ x :: L.drop k ↔ z ∈ L ∨ z = x := fun z => by
      have hz : z ∈ L ↔ z ∈ L.take k ∨ z ∈ L.drop k := by
        conv => lhs; rw [← List.take_append_drop k L]
        exact List.mem_append
      rw [List.mem_append, List.mem_cons, hz]
      constructor
      · rintro (h | h | h)
        · exact .inl (.inl h)
        · exact .inr h
        · exact .inl (.inr h)
      · rintro ((h | h) | h)
        · exact .inl h
        · exact .inr (.inr h)
        · exact .inr (.inl h)
    refine ⟨good_ins h.good hd hs h1 h2 hno, fun b hb => ?_, fun p hp => ?_, ?_⟩
    · rcases List.mem_append.1 hb with hb | hb
      · obtain ⟨p, hp, he⟩ := h.has b hb
        obtain ⟨z, hz, rfl⟩ := List.mem_map.1 hp
        exact ⟨bp z, List.mem_map_of_mem ((hmem z).2 (.inl hz)), he⟩
      · rw [List.mem_singleton.1 hb]; exact ⟨bp x, List.mem_map_of_mem ((hmem x).2 (.inr rfl)), hd⟩
    · obtain ⟨z, hz, rfl⟩ := List.mem_map.1 hp
      rcases (hmem z).1 hz with hz | rfl
      · exact List.mem_append.2 (.inl (h.frm _ (List.mem_map_of_mem hz)))
      · exact List.mem_append.2 (.inr (List.mem_singleton.2 rfl))
    · have h3 := h.few
      have h4 : (L.take k).length + (L.drop k).length = L.length := by rw [← List.length_append, List.take_append_drop]
      rw [List.length_map] at h3
      simp only [List.length_map, List.length_append, List.length_cons, List.length_nil]
      omega
theorem putL_few {L T : List Bl} {x : Bl} (hT : putL L x T) : T.length ≤ L.length + 1 := by
  rcases hT with ⟨_, rfl⟩ | ⟨_, k, _, _, rfl⟩
  · omega
  · have h4 : (L.take k).length + (L.drop k).length = L.length := by rw [← List.length_append, List.take_append_drop]
    rw [List.length_append, List.length_cons]; omega
/-- no two different contents have one digest -/
def NoCol (B : List (List Int)) : Prop := ∀ b ∈ B, ∀ c ∈ B, shb b = shb c → b = c
theorem NoCol.nil : NoCol [] := fun b h => (by cases h)
theorem NoCol.snoc {B : List (List Int)} {b : List Int} (h : NoCol B) (h2 : ∀ c ∈ B, shb b = shb c → b = c) : NoCol (B ++ [b]) := fun x hx y hy e => by
  rcases List.mem_append.1 hx with hx | hx <;> rcases List.mem_append.1 hy with hy | hy
  · exact h x hx y hy e
  · rw [List.mem_singleton.1 hy] at e ⊢; exact (h2 x hx e.symm).symm
  · rw [List.mem_singleton.1 hx] at e ⊢; exact h2 y hy e
  · rw [List.mem_singleton.1 hx, List.mem_singleton.1 hy]
def pr0 (d : List Int) : Pr := (d, [])
/-- the digests of some contents -/
structure AddP (D B : List (List Int)) : Prop where
  srt : srtD (D.map pr0)
  mem : ∀ d, d ∈ D ↔ ∃ b ∈ B, d = shb b
theorem AddP.nil : AddP [] [] := ⟨List.Pairwise.nil, fun d => by simp⟩
theorem AddP.add {D B T : List (List Int)} {b : List Int} (h : AddP D B) (hT : addL D (shb b) T) : AddP T (B ++ [b]) := by
  have hB : ∀ d, (∃ c ∈ B ++ [b], d = shb c) ↔ (∃ c ∈ B, d = shb c) ∨ d = shb b := fun d => by
    constructor
    · rintro ⟨c, hc, rfl⟩
      rcases List.mem_append.1 hc with hc | hc
      · exact .inl ⟨c, hc, rfl⟩
      · exact .inr (by rw [List.mem_singleton.1 hc])
    · rintro (⟨c, hc, rfl⟩ | rfl)
      · exact ⟨c, List.mem_append.2 (.inl hc), rfl⟩
      · exact ⟨b, List.mem_append.2 (.inr (List.mem_singleton.2 rfl)), rfl⟩
  rcases hT with ⟨hin, rfl⟩ | ⟨hno, k, h1, h2, rfl⟩
  · refine ⟨h.srt, fun d => ?_⟩
    rw [hB, ← h.mem]
    constructor
    · exact .inl
    · rintro (h | rfl)
      · exact h
      · exact hin
  · constructor
    · have := srt_ins (x := pr0 (shb b)) (k := k) h.srt (fun y hy => by
        rw [← List.map_take] at hy
        obtain ⟨z, hz, rfl⟩ := List.mem_map.1 hy; exact h1 z hz) (fun y hy => by
        rw [List.getElem?_map] at hy
        cases hz : D[k]? with
        | none => rw [hz] at hy; cases hy
        | some z => rw [hz] at hy; injection hy with hy; rw [← hy]; exact h2 z hz) (fun y hy => by
        obtain ⟨z, hz, rfl⟩ := List.mem_map.1 hy
        intro e; exact hno (by rw [← show z = shb b from e]; exact hz))
      rw [List.map_append, List.map_cons, List.map_take, List.map_drop]; exact this
    · intro d
      have hz : d ∈ D ↔ d ∈ D.take k ∨ d ∈ D.drop k := by
        conv => lhs; rw [← List.take_append_drop k D]
        exact List.mem_append
      rw [hB, ← h.mem, hz, List.mem_append, List.mem_cons]
      constructor
      · rintro (h | h | h)
        · exact .inl (.inl h)
        · exact .inr h
        · exact .inl (.inr h)
      · rintro ((h | h) | h)
        · exact .inl h
        · exact .inr (.inr h)
        · exact .inr (.inl h)
theorem keep_len {P : List Pr} {B D : List (List Int)} (h : KeepP P B) (hd : AddP D B) : P.length = D.length := by
  have e : P.map (fun p => pr0 p.1) = D.map pr0 := srtD_ext (List.pairwise_map.2 h.good.srt) hd.srt (fun z => by
    rw [List.mem_map, List.mem_map]
    constructor
    · rintro ⟨p, hp, rfl⟩
      exact ⟨p.1, (hd.mem p.1).2 ⟨p.2, h.frm p hp, h.good.aud p hp⟩, rfl⟩
    · rintro ⟨d, hdm, rfl⟩
      obtain ⟨b, hb, rfl⟩ := (hd.mem d).1 hdm
      obtain ⟨p, hp, he⟩ := h.has b hb
      exact ⟨p, hp, by rw [he]⟩)
  have := congrArg List.length e
  simpa using this
/-- what is found is what was put -/
theorem keep_get {L : List Bl} {B : List (List Int)} (h : KeepP (L.map bp) B) (hc : NoCol B) {b : List Int} (hb : b ∈ B) {y : Bl} (hy : y ∈ L) (hd : y.d = shb b) : y.b = b := by
  have hm := List.mem_map_of_mem (f := bp) hy
  exact hc y.b (h.frm _ hm) b hb (by rw [← hd]; exact (h.good.aud _ hm).symm)
theorem keep_aud {P : List Pr} (h : GoodP P) : audP P = [] := by
  unfold audP
  rw [List.filter_eq_nil_iff.2 (fun x hx => by simp [h.aud x hx])]; rfl
end Go.Proofs.YtdjknefbaclleaaGreatDoor
