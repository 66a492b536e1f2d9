/-
  Stores: laws (a slice of blobs cut from a place on, an append of many) and the walk of the reference's insert (at most 400000 blobs).
-/
import Derived.Test.YtfehgkpmjnmpeaaDoorStsA
import Derived.Test.YtfehgkpmjnmpeaaDoorGg
import Derived.Laws.AppendOwnNone
namespace Go.Proofs.YtfehgkpmjnmpeaaDoor
open Go.RowKit

/-- where x[k:] begins -/
def slB (sp : Option Addr) (k cap : Nat) : Option Addr := if cap = k then sp else sp.map (·.add (k * 33))
theorem slB_none (k cap : Nat) (sp : Option Addr) : (slB sp k cap = none) = (sp = none) := by
  unfold slB; split
  · rfl
  · simp
set_option maxRecDepth 100000 in
theorem sizeB (w : World) : (sizeOf 52).run Tryd.prog w = .ok 33 w := by
  have h := infoB
  cases hi : Tryd.prog.info? 52 with
  | none => rw [hi] at h; cases h
  | some i => rw [hi] at h; injection h with h; simp [sizeOf, typeInfo, hi, h]
theorem run_fromB (w : World) (sp : Option Addr) (n cap k : Nat) (hk : k ≤ n) :
    (Instr.slice 22 (.slice sp n cap) (some (.int .i64 k)) none none).run Tryd.prog w = .ok (.slice (slB sp k cap) (n - k) (cap - k)) w := by
  have h1 : (0 : Int) ≤ (k : Int) ∧ (k : Int) ≤ (n : Int) := ⟨by omega, by omega⟩
  simp [Instr.slice, Instr.sliceBounds, Instr.sliceBound, asIntOf, run_underlying Tryd.underlying22, sizeB, hk, slB]
theorem yieldsIf_fromB {ops : Array Oper} {S : World → Prop} {op : Oper} {a : Act} (hw : Region.wanted op (yielded ops a.tmps) = true) (x lo : Operand) (ho : op.op = .slice 22 x (some lo) none none)
    (sp : Option Addr) (n cap k : Nat) (hx : a.eval x = .slice sp n cap) (hlo : a.eval lo = .int .i64 k) (hk : k ≤ n) : YieldsIf Tryd.prog ops S op (.slice (slB sp k cap) (n - k) (cap - k)) a :=
  .inl ⟨hw, fun w _ => by
    unfold execOp
    simp only [ho, Option.map_some, Option.map_none, hx, hlo]
    have := run_fromB w sp n cap k hk
    simp [Instr.sliceAt, run_underlying Tryd.underlying22, this]⟩
theorem BlsIn.cutB {w : World} {B : Nat} {sp : Option Addr} {n cap : Nat} {l : List Bl} (h : BlsIn w B sp n cap l) {k : Nat} (hk : k ≤ n) : BlsIn w B (slB sp k cap) (n - k) (cap - k) (l.drop k) :=
  ⟨by rw [List.length_drop, h.len], fun x hx => h.ok x (List.mem_of_mem_drop hx), fun x hx => h.dat x (List.mem_of_mem_drop hx), fun hn => by
    obtain ⟨b, off, rfl, hlt, hc, hr⟩ := h.cells (by omega)
    refine ⟨b, off + k * 33, ?_, hlt, by omega, fun i x hi => ?_⟩
    · unfold slB; rw [if_neg (by omega)]; simp only [Option.map_some, Addr.add_mid]
    · rw [List.getElem?_drop] at hi
      have := hr (k + i) x hi
      rw [show off + (k + i) * 33 = off + k * 33 + i * 33 by omega] at this
      exact this⟩
theorem BlsIn.one {w : World} {b : Nat} {x : Bl} (h : BlB w b x) (hx : OkB x) (hd : DatIn w w.heap.size x) : BlsIn w w.heap.size (some ⟨b, 0, none⟩) 1 1 [x] :=
  ⟨rfl, fun y hy => (by rw [List.mem_singleton.1 hy]; exact hx), fun y hy => (by rw [List.mem_singleton.1 hy]; exact hd), fun _ => ⟨b, 0, rfl, (Array.getElem?_eq_some_iff.1 h).1, Nat.le_refl _, fun i y hi => by
    rcases i with _ | i
    · have e : x = y := by simpa using hi
      subst e; exact h.all
    · simp at hi⟩⟩
theorem wp_slice_eqB {P : Program} {o : Oper} {a : Act} {w : World} {K : Act → World → Prop} {Q : Exit → Act → World → Prop} (t : TypeId) (k : Nat) (parts : List (Nat × Operand)) (ho : o.op = .buildSlice t k parts.toArray)
    (vs : List (Nat × Value)) (hv : (parts.map fun (i, x) => (i, a.eval x)) = vs) (v : Value) (w' : World) (hrun : (Instr.buildSlice t k vs.toArray).run P w = .ok v w') (h : K (a.put o.dst v) w') : o.wp P a w K Q := by
  unfold Oper.wp execOp
  simp only [ho, Sem.run_bind, List.map_toArray, hv, hrun, Result.andThen_ok]
  exact h
set_option maxRecDepth 100000 in
/-- append(own, list...) -/
theorem wp_append_bls {w : World} {o : Oper} {a : Act} {K : Act → World → Prop} {Q : Exit → Act → World → Prop} (s x : Operand)
    (ho : o.op = .call { callee := .builtin .append, args := #[s, x], argTypes := #[22, 22] }) (base : Nat) (v : Value) (l : List Bl) (n : Nat) (hn : n = l.length) (hs : a.eval s = v) (hown : OwnB w base v l)
    (sp2 : Option Addr) (m cap2 B : Nat) (l2 : List Bl) (hx : a.eval x = .slice sp2 m cap2) (hsrc : BlsIn w B sp2 m cap2 l2) (hnil : sp2 = none → cap2 = 0) (hlen : n + m ≤ 1000000) (hbase : base ≤ w.heap.size)
    (h : ∀ sp cap w', Hid (OwnB w' base (.slice sp (n + m) cap) (l ++ l2)) → Hid (Below base w w') → Hid (w.grownBy w' v.ownBlock) → K (a.put o.dst (.slice sp (n + m) cap)) w') : o.wp Tryd.prog a w K Q := by
  subst hn
  obtain ⟨i0, hi0, hz0, hz1, hz2⟩ := info_parts infoB3
  have hl2 := hsrc.len
  cases sp2 with
  | none =>
    have hm : m = 0 := by
      by_cases h0 : 0 < m
      · obtain ⟨_, _, e, _⟩ := hsrc.cells h0; cases e
      · omega
    subst hm
    have e2 : l2 = [] := List.eq_nil_of_length_eq_zero hl2
    subst e2
    rw [hnil rfl] at hx
    have hrun := run_append_owned_none (P := Tryd.prog) (w := w) base 22 o.type 52 i0 33 Tryd.underlying22 hi0 v l.length _ hown.1
    obtain ⟨sp, cap, rfl⟩ := own_shapeG hown.1
    unfold Oper.wp
    simp [execOp, ho, resolve, invoke, builtin, hs, hx, hrun, Result.andThen]
    exact h sp cap w (by show OwnB _ _ _ _; simpa using hown) (Below.refl _ _) (World.grownBy.refl _ _)
  | some ad =>
    refine wp_append_own w s x _ ho base _ i0 _ 33 56 Tryd.underlying22 hi0 hz0 hz1 hz2 rfl (by decide) v l.length _ hs hown.1 ad m cap2 (rowsB l2) hx (by rw [← hl2]; exact flat_lenG blL 33 l2 (fun z hz => blL_length (hsrc.ok z hz))) ?_ rowsB_one (by unfold maxLen; omega) (by omega) hbase ?_
    · intro j u hj
      obtain ⟨y, h1, h2⟩ := flat_getG blL 33 (by decide) l2 (fun z hz => blL_length (hsrc.ok z hz)) j u hj
      have hlt := (List.getElem?_eq_some_iff.1 h1).1
      obtain ⟨b, off, e, _, _, hr⟩ := hsrc.cells (by omega)
      injection e with e; subst e
      have := hr _ y h1 _ u h2
      rw [Addr.add_mid]
      rw [show off + j = off + j / 33 * 33 + j % 33 by omega]
      exact this
    · intro v' w' h1 h2 _
      obtain ⟨sp, cap, rfl⟩ := own_shapeG h1
      refine h sp cap w' ⟨by rw [rowsB_append, List.length_append, hl2]; exact h1, fun z hz => ?_⟩ ((Below.refl base w).grown h2 hbase (own_baseG hown.1)) h2
      rcases List.mem_append.1 hz with hz | hz
      · exact hown.2 z hz
      · exact hsrc.ok z hz
set_option maxRecDepth 100000 in
set_option maxHeartbeats 2000000 in
theorem rinsertB_any (sp : Option Addr) (n cap : Nat) (l : List Bl) (x : Bl) (w : World) (hl : BlsIn w w.heap.size sp n cap l) (hnil : sp = none → cap = 0) (hx : OkB x) (hdx : DatIn w w.heap.size x) (hn : n ≤ 400000) :
    Calls Tryd.prog 38 #[.slice sp n cap, .agg (blL x).toArray] w fun e w' => ∃ sp' cap' k, e = .returned (.slice sp' (n + 1) cap') ∧ OwnB w' w.heap.size (.slice sp' (n + 1) cap') (l.take k ++ x :: l.drop k) ∧ (∀ y ∈ l.take k, dls y.d x.d = true) ∧ (∀ y, l[k]? = some y → dls y.d x.d = false) ∧ Below w.heap.size w w' := by
  have HL := Lib.hid hl; have HNIL := Lib.hid hnil; have HOX := Lib.hid hx; have HDX := Lib.hid hdx
  have HIX := Lib.hid (info_b hx); have HID := Lib.hid (info_d hx)
  have HNW := Lib.hid (BlB.new w x)
  clear hl hnil hx hdx
  go_enter Tryd.func38, Tryd.ntmps38
  go_wp2_with fail
  generalize hw0 : World.alloc w _ = w0
  have HX0 := Lib.hid (show BlB w0 w.heap.size x by rw [← hw0]; exact HNW.out)
  have HB0 := Lib.hid (show Below w.heap.size w w0 by rw [← hw0]; exact (Below.refl _ _).alloc (Nat.le_refl _) _)
  have HS0 := Lib.hid (show w.heap.size + 1 ≤ w0.heap.size by rw [← hw0]; simp)
  clear hw0 HNW
  go_loopw [5, 6] (fun v i wr => ∃ (k c : Nat) (g : Option Addr), v = .slice g k c ∧ i = .int .i64 k ∧ k ≤ n ∧ Hid (OwnB wr (w.heap.size + 1) (.slice g k c) (l.take k) ∧ (∀ y ∈ l.take k, dls y.d x.d = true) ∧ Below (w.heap.size + 1) w0 wr)) (fun _ i _ => n - (intOf i).toNat)
  case atStart => exact ⟨0, 0, none, rfl, rfl, Nat.zero_le _, OwnB.nil _ _, fun y hy => (by simp at hy), Below.refl _ _⟩
  case round =>
    obtain ⟨k, c, gv, rfl, rfl, hk, H⟩ := hrel
    have HO := Lib.hid H.out.1; have HALL := Lib.hid H.out.2.1; have HBE := Lib.hid H.out.2.2
    clear H
    have HKL := Lib.hid (show k = (l.take k).length by rw [List.length_take, HL.out.len]; omega)
    have p1 : (0 : Int) ≤ (k : Int) := by omega
    have q0 : IntKind.i64.wrap (k : Int) = (k : Int) := IntWalk.i64_in _ (by omega)
    by_cases hlt : k < n
    · have hd : decide ((k : Int) < (n : Int)) = true := by simp; omega
      have p2 : (k : Int) < (n : Int) := by omega
      obtain ⟨b, off, rfl, hbB, hcap, hr⟩ := HL.out.cells (by omega)
      obtain ⟨y, hy⟩ : ∃ y, l[k]? = some y := ⟨l[k]'(by have := HL.out.len; omega), List.getElem?_eq_getElem _⟩
      have HYM := Lib.hid (List.mem_of_getElem? hy)
      have HYR := Lib.hid (hr k y hy)
      have HBB := Lib.hid hbB
      have HOY := Lib.hid (HL.out.ok y HYM.out)
      have HIY := Lib.hid (info_d HOY.out); have HIYB := Lib.hid (info_b HOY.out)
      have HT := Lib.hid (show l.take (k + 1) = l.take k ++ [y] by rw [List.take_add_one, hy]; rfl)
      have HYX := Lib.hid hy
      have hCC : ∀ w', Calls Tryd.prog 32 #[.agg (y.d.map (Value.int .u8)).toArray, .agg (x.d.map (Value.int .u8)).toArray] w' fun e w'' => e = .returned (.bool (dls y.d x.d)) ∧ Below w'.heap.size w' w'' := fun w' => less_any y.d x.d w' HOY.out HOX.out
      clear hr hy
      cases hdl : dls y.d x.d
      · rw [hdl] at hCC
        have HSTOP := Lib.hid (show ∀ z, l[k]? = some z → dls z.d x.d = false from fun z hz => by rw [HYX.out] at hz; injection hz with hz; rw [← hz]; exact hdl)
        clear hdl
        go_wp2_with fail
        refine wp_region_held_drew (S := fun w' => Below (w.heap.size + 1) w0 w') (by kernel_rfl) HBE.out.drew (fun hHeld => ?_)
        refine wpAnyH_take (i := 0) (oi := _) (v := ?v0n1) rfl (by kernel_rfl) (by kernel_rfl) (by kernel_rfl) (fun _ _ _ h => h) (Or.inl ⟨by rfl, ?hy0n1⟩) (by assumption) ?rest0n1
        case hy0n1 =>
          intro w' hSw
          go_simp
          try with_reducible rfl
        try simp only [Act.put, List.getElem_toArray, List.getElem_cons_succ, List.getElem_cons_zero, List.setIfInBounds_toArray, List.set_cons_zero, List.set_cons_succ]
        refine wpAnyH_take (i := 1) (oi := _) (v := ?v1n2) rfl (by kernel_rfl) (by kernel_rfl) (by kernel_rfl) (fun _ _ _ h => h) (Or.inl ⟨by rfl, ?hy1n2⟩) (by assumption) ?rest1n2
        case hy1n2 =>
          intro w' hSw
          go_simp
          try with_reducible rfl
        try simp only [Act.put, List.getElem_toArray, List.getElem_cons_succ, List.getElem_cons_zero, List.setIfInBounds_toArray, List.set_cons_zero, List.set_cons_succ]
        refine wpAnyH_take (i := 2) (oi := _) (v := ?v2n3) rfl (by kernel_rfl) (by kernel_rfl) (by kernel_rfl) (fun _ _ _ h => h) (Or.inl ⟨by rfl, ?hy2n3⟩) (by assumption) ?rest2n3
        case hy2n3 =>
          intro w' hSw
          go_simp
          try with_reducible rfl
        try simp only [Act.put, List.getElem_toArray, List.getElem_cons_succ, List.getElem_cons_zero, List.setIfInBounds_toArray, List.set_cons_zero, List.set_cons_succ]
        refine wpAnyH_take (i := 3) (oi := _) (v := ?v3n4) rfl (by kernel_rfl) (by kernel_rfl) (by kernel_rfl) (fun _ _ _ h => h) (Or.inl ⟨by rfl, ?hy3n4⟩) (by assumption) ?rest3n4
        case hy3n4 =>
          intro w' hSw
          go_simp
          try with_reducible rfl
        try simp only [Act.put, List.getElem_toArray, List.getElem_cons_succ, List.getElem_cons_zero, List.setIfInBounds_toArray, List.set_cons_zero, List.set_cons_succ]
        refine wpAnyH_take (i := 4) (oi := _) (v := ?v4n5) rfl (by kernel_rfl) (by kernel_rfl) (by kernel_rfl) (fun _ _ _ h => h) (Or.inl ⟨by rfl, ?hy4n5⟩) (by assumption) ?rest4n5
        case hy4n5 =>
          intro w' hSw
          go_simp
          try with_reducible rfl
        try simp only [Act.put, List.getElem_toArray, List.getElem_cons_succ, List.getElem_cons_zero, List.setIfInBounds_toArray, List.set_cons_zero, List.set_cons_succ]
        refine wpAnyH_take (i := 5) (oi := _) (v := ?v5n6) rfl (by kernel_rfl) (by kernel_rfl) (by kernel_rfl) (fun _ _ _ h => h) (Or.inl ⟨by rfl, ?hy5n6⟩) (by assumption) ?rest5n6
        case hy5n6 =>
          intro w' hSw
          go_simp
          try with_reducible rfl
        try simp only [Act.put, List.getElem_toArray, List.getElem_cons_succ, List.getElem_cons_zero, List.setIfInBounds_toArray, List.set_cons_zero, List.set_cons_succ]
        refine wpAnyH_take (i := 6) (oi := _) (v := ?v6n7) rfl (by kernel_rfl) (by kernel_rfl) (by kernel_rfl) (fun _ _ _ h => h) (Or.inl ⟨by rfl, ?hy6n7⟩) (by assumption) ?rest6n7
        case hy6n7 =>
          intro w' hSw
          go_simp
          try with_reducible rfl
        try simp only [Act.put, List.getElem_toArray, List.getElem_cons_succ, List.getElem_cons_zero, List.setIfInBounds_toArray, List.set_cons_zero, List.set_cons_succ]
        refine wpAnyH_take (i := 7) (oi := _) (v := ?v7n8) rfl (by kernel_rfl) (by kernel_rfl) (by kernel_rfl) (fun _ _ _ h => h) (Or.inl ⟨by rfl, ?hy7n8⟩) (by assumption) ?rest7n8
        case hy7n8 =>
          intro w' hSw
          go_simp
          try with_reducible rfl
        try simp only [Act.put, List.getElem_toArray, List.getElem_cons_succ, List.getElem_cons_zero, List.setIfInBounds_toArray, List.set_cons_zero, List.set_cons_succ]
        refine wpAnyH_take (i := 8) (oi := _) (v := ?v8n9) rfl (by kernel_rfl) (by kernel_rfl) (by kernel_rfl) (fun _ _ _ h => h) (Or.inl ⟨by rfl, ?hy8n9⟩) (by assumption) ?rest8n9
        case hy8n9 =>
          intro w' hSw
          go_simp
          try with_reducible rfl
        try simp only [Act.put, List.getElem_toArray, List.getElem_cons_succ, List.getElem_cons_zero, List.setIfInBounds_toArray, List.set_cons_zero, List.set_cons_succ]
        refine' wpAnyH_take (i := 9) (oi := _) (v := _) rfl (by kernel_rfl) (by kernel_rfl) (by kernel_rfl) (fun _ _ _ h => h) (yieldsIf_load_mid (by rfl) _ _ rfl _ _ rfl _ _ ?hS9n10 Tryd.underlying32 rfl HIY.out) (by assumption) ?rest9n10
        case hS9n10 =>
          intro w' hSw
          exact (rngB_d (range_belowG HYR.out (HB0.out.trans (hSw.mono (Nat.le_succ _))) HBB.out))
        try simp only [Act.put, List.getElem_toArray, List.getElem_cons_succ, List.getElem_cons_zero, List.setIfInBounds_toArray, List.set_cons_zero, List.set_cons_succ]
        refine wpAnyH_take (i := 10) (oi := _) (v := ?v10n11) rfl (by kernel_rfl) (by kernel_rfl) (by kernel_rfl) (fun _ _ _ h => h) (Or.inl ⟨by rfl, ?hy10n11⟩) (by assumption) ?rest10n11
        case hy10n11 =>
          intro w' hSw
          go_simp
          try with_reducible rfl
        try simp only [Act.put, List.getElem_toArray, List.getElem_cons_succ, List.getElem_cons_zero, List.setIfInBounds_toArray, List.set_cons_zero, List.set_cons_succ]
        refine' wpAnyH_take (i := 11) (oi := _) (v := _) rfl (by kernel_rfl) (by kernel_rfl) (by kernel_rfl) (fun _ _ _ h => h) (yieldsIf_load_mid (by rfl) _ _ rfl _ _ rfl _ _ ?hS11n12 Tryd.underlying32 rfl HID.out) (by assumption) ?rest11n12
        case hS11n12 =>
          intro w' hSw
          exact (HX0.out.below hSw (Nat.lt_succ_self _)).d
        try simp only [Act.put, List.getElem_toArray, List.getElem_cons_succ, List.getElem_cons_zero, List.setIfInBounds_toArray, List.set_cons_zero, List.set_cons_succ]
        refine wpAnyH_ready (rs := [12]) (by kernel_rfl) (by simp) (AllReadyH.cons (o := _) rfl (fun K hK => ?_) AllReadyH.nil)
        go_simp
        with_reducible refine (hCC _).mono ?_
        rintro e wd ⟨rfl, hb3⟩
        have HBD := Lib.hid (HBE.out.drew.trans (hb3.mono (Nat.le_trans HS0.out HBE.out.size)))
        have HOW := Lib.hid ((HO.out.below ((Below.refl wr.heap.size wr).drew)).below hb3)
        go_wp2_with fail
        refine hK.out _ _ (HBE.out.drew.trans (hb3.mono (Nat.le_trans HS0.out HBE.out.size))) (fun hHeld => ?_)
        clear hK K
        try simp only [Act.put, List.getElem_toArray, List.getElem_cons_succ, List.getElem_cons_zero, List.setIfInBounds_toArray, List.set_cons_zero, List.set_cons_succ]
        refine wpAnyH_take (i := 13) (oi := _) (v := ?v13n13) rfl (by kernel_rfl) (by kernel_rfl) (by kernel_rfl) (fun _ _ _ h => h) (Or.inl ⟨by rfl, ?hy13n13⟩) (by assumption) ?rest13n13
        case hy13n13 =>
          intro w' hSw
          go_simp
          try with_reducible rfl
        try simp only [Act.put, List.getElem_toArray, List.getElem_cons_succ, List.getElem_cons_zero, List.setIfInBounds_toArray, List.set_cons_zero, List.set_cons_succ]
        refine wpAnyH_done (by kernel_rfl) ?_ _
        clear hHeld
        go_wp2_with fail
        have HOD := Lib.hid HOW.out
        have HSD := Lib.hid (show w.heap.size + 1 ≤ wd.heap.size from Nat.le_trans HS0.out HBD.out.size)
        refine wp_region_held_drew (S := fun w' => Below (w.heap.size + 1) w0 w') (by kernel_rfl) (HBD.out.drew) (fun hHeld => ?_)
        refine wpAnyH_take (i := 0) (oi := _) (v := ?v0n27) rfl (by kernel_rfl) (by kernel_rfl) (by kernel_rfl) (fun _ _ _ h => h) (Or.inl ⟨by rfl, ?hy0n27⟩) (by assumption) ?rest0n27
        case hy0n27 =>
          intro w' hSw
          go_simp
          try with_reducible rfl
        try simp only [Act.put, List.getElem_toArray, List.getElem_cons_succ, List.getElem_cons_zero, List.setIfInBounds_toArray, List.set_cons_zero, List.set_cons_succ]
        refine' wpAnyH_take (i := 1) (oi := _) (v := _) rfl (by kernel_rfl) (by kernel_rfl) (by kernel_rfl) (fun _ _ _ h => h) (yieldsIf_load_mid (by rfl) _ _ rfl _ _ rfl _ _ ?hS1n28 Tryd.underlying52 rfl HIX.out) (by assumption) ?rest1n28
        case hS1n28 =>
          intro w' hSw
          exact ((HX0.out.below hSw (Nat.lt_succ_self _)).all)
        try simp only [Act.put, List.getElem_toArray, List.getElem_cons_succ, List.getElem_cons_zero, List.setIfInBounds_toArray, List.set_cons_zero, List.set_cons_succ]
        refine wpAnyH_take (i := 4) (oi := _) (v := ?v4n29) rfl (by kernel_rfl) (by kernel_rfl) (by kernel_rfl) (fun _ _ _ h => h) (Or.inl ⟨by rfl, ?hy4n29⟩) (by assumption) ?rest4n29
        case hy4n29 =>
          intro w' hSw
          go_simp
          try with_reducible rfl
        try simp only [Act.put, List.getElem_toArray, List.getElem_cons_succ, List.getElem_cons_zero, List.setIfInBounds_toArray, List.set_cons_zero, List.set_cons_succ]
        refine wpAnyH_take (i := 5) (oi := _) (v := ?v5n30) rfl (by kernel_rfl) (by kernel_rfl) (by kernel_rfl) (fun _ _ _ h => h) (Or.inl ⟨by rfl, ?hy5n30⟩) (by assumption) ?rest5n30
        case hy5n30 =>
          intro w' hSw
          go_simp
          try with_reducible rfl
        try simp only [Act.put, List.getElem_toArray, List.getElem_cons_succ, List.getElem_cons_zero, List.setIfInBounds_toArray, List.set_cons_zero, List.set_cons_succ]
        refine' wpAnyH_take (i := 6) (oi := _) (v := _) rfl (by kernel_rfl) (by kernel_rfl) (by kernel_rfl) (fun _ _ _ h => h) (yieldsIf_fromB (by rfl) _ _ rfl (some ⟨b, off, none⟩) n cap k rfl rfl hk) (by assumption) ?rest6n31
        try simp only [Act.put, List.getElem_toArray, List.getElem_cons_succ, List.getElem_cons_zero, List.setIfInBounds_toArray, List.set_cons_zero, List.set_cons_succ]
        refine wpAnyH_ready (rs := [2]) (by kernel_rfl) (by simp) (AllReadyH.cons (o := _) rfl (fun K hK => ?_) AllReadyH.nil)
        rw [if_pos (by rfl)]
        refine wp_slice_eqB 22 1 [(0, .tmp 31)] rfl [(0, .agg (blL x).toArray)] rfl _ _ (sliceB _ x HOX.out) ?_
        have HZ3 := Lib.hid (BlB.new wd.drew x)
        have HB3 := Lib.hid (HBD.out.drew.alloc HSD.out (.cells (blL x).toArray 52))
        have HO3 := Lib.hid (HOD.out.below ((Below.refl wd.heap.size wd).drew.alloc (Nat.le_refl _) (.cells (blL x).toArray 52)))
        generalize World.alloc wd.drew _ = w3 at *
        have HB1 := Lib.hid (BlsIn.one (show BlB w3 wd.heap.size x from HZ3.out) HOX.out (HDX.out.up (HB0.out.trans (HB3.out.mono (Nat.le_succ _))) (Nat.le_refl _)))
        refine hK.out _ _ HB3.out (fun hHeld => ?_)
        clear hK K
        try simp only [Act.put, List.getElem_toArray, List.getElem_cons_succ, List.getElem_cons_zero, List.setIfInBounds_toArray, List.set_cons_zero, List.set_cons_succ]
        refine wpAnyH_ready (rs := [3]) (by kernel_rfl) (by simp) (AllReadyH.cons (o := _) rfl (fun K hK => ?_) AllReadyH.nil)
        rw [if_pos (by rfl)]
        refine wp_append_bls (.tmp 30) (.tmp 32) rfl (w.heap.size + 1) _ (l.take k) k HKL.out rfl HO3.out (some ⟨wd.heap.size, 0, none⟩) 1 1 _ [x] rfl HB1.out (fun h => (by cases h)) (by omega) (Nat.le_trans HS0.out HB3.out.size) ?_
        intro sp4 c4 w4 HO4 HB4 HG4
        have HB5 := Lib.hid (HB3.out.trans HB4.out)
        refine hK.out _ _ HB5.out (fun hHeld => ?_)
        clear hK K
        try simp only [Act.put, List.getElem_toArray, List.getElem_cons_succ, List.getElem_cons_zero, List.setIfInBounds_toArray, List.set_cons_zero, List.set_cons_succ]
        refine wpAnyH_ready (rs := [7]) (by kernel_rfl) (by simp) (AllReadyH.cons (o := _) rfl (fun K hK => ?_) AllReadyH.nil)
        rw [if_pos (by rfl)]
        refine wp_append_bls (.tmp 33) (.tmp 36) rfl (w.heap.size + 1) _ (l.take k ++ [x]) (k + 1) (by rw [List.length_append, ← HKL.out]; rfl) rfl HO4.out _ (n - k) (cap - k) _ _ rfl ((HL.out.below (HB0.out.trans (HB5.out.mono (Nat.le_succ _))) (Nat.le_refl _)).cutB hk) (by rw [slB_none]; exact fun h => by rw [HNIL.out h]; simp) (by omega) (Nat.le_trans HS0.out HB5.out.size) ?_
        intro sp6 c6 w6 HO6 HB6 HG6
        have HB7 := Lib.hid (HB5.out.trans HB6.out)
        refine hK.out _ _ HB7.out (fun hHeld => ?_)
        clear hK K
        try simp only [Act.put, List.getElem_toArray, List.getElem_cons_succ, List.getElem_cons_zero, List.setIfInBounds_toArray, List.set_cons_zero, List.set_cons_succ]
        refine wpAnyH_take (i := 8) (oi := _) (v := ?v8n32) rfl (by kernel_rfl) (by kernel_rfl) (by kernel_rfl) (fun _ _ _ h => h) (Or.inl ⟨by rfl, ?hy8n32⟩) (by assumption) ?rest8n32
        case hy8n32 =>
          intro w' hSw
          go_simp
          try with_reducible rfl
        try simp only [Act.put, List.getElem_toArray, List.getElem_cons_succ, List.getElem_cons_zero, List.setIfInBounds_toArray, List.set_cons_zero, List.set_cons_succ]
        refine wpAnyH_done (by kernel_rfl) ?_ _
        clear hHeld
        have HKN := Lib.hid (show k + 1 + (n - k) = n + 1 by omega)
        have HO8 := Lib.hid (show OwnB w6 w.heap.size (.slice sp6 (k + 1 + (n - k)) c6) (l.take k ++ x :: l.drop k) by have := HO6.out.base (Nat.le_succ w.heap.size); rw [List.append_assoc] at this; exact this)
        go_wp2_with fail
        go_ret
        exact ⟨sp6, c6, k, by rw [← HKN.out]; rfl, by rw [← HKN.out]; exact HO8.out, HALL.out, HSTOP.out, HB0.out.trans (HB7.out.mono (Nat.le_succ _))⟩
      · rw [hdl] at hCC
        have HALL2 := Lib.hid (show ∀ z ∈ l.take (k + 1), dls z.d x.d = true by
          rw [HT.out]; intro z hz
          rcases List.mem_append.1 hz with hz | hz
          · exact HALL.out z hz
          · rw [List.mem_singleton.1 hz]; exact hdl)
        clear hdl
        go_wp2_with fail
        refine wp_region_held_drew (S := fun w' => Below (w.heap.size + 1) w0 w') (by kernel_rfl) HBE.out.drew (fun hHeld => ?_)
        refine wpAnyH_take (i := 0) (oi := _) (v := ?v0n14) rfl (by kernel_rfl) (by kernel_rfl) (by kernel_rfl) (fun _ _ _ h => h) (Or.inl ⟨by rfl, ?hy0n14⟩) (by assumption) ?rest0n14
        case hy0n14 =>
          intro w' hSw
          go_simp
          try with_reducible rfl
        try simp only [Act.put, List.getElem_toArray, List.getElem_cons_succ, List.getElem_cons_zero, List.setIfInBounds_toArray, List.set_cons_zero, List.set_cons_succ]
        refine wpAnyH_take (i := 1) (oi := _) (v := ?v1n15) rfl (by kernel_rfl) (by kernel_rfl) (by kernel_rfl) (fun _ _ _ h => h) (Or.inl ⟨by rfl, ?hy1n15⟩) (by assumption) ?rest1n15
        case hy1n15 =>
          intro w' hSw
          go_simp
          try with_reducible rfl
        try simp only [Act.put, List.getElem_toArray, List.getElem_cons_succ, List.getElem_cons_zero, List.setIfInBounds_toArray, List.set_cons_zero, List.set_cons_succ]
        refine wpAnyH_take (i := 2) (oi := _) (v := ?v2n16) rfl (by kernel_rfl) (by kernel_rfl) (by kernel_rfl) (fun _ _ _ h => h) (Or.inl ⟨by rfl, ?hy2n16⟩) (by assumption) ?rest2n16
        case hy2n16 =>
          intro w' hSw
          go_simp
          try with_reducible rfl
        try simp only [Act.put, List.getElem_toArray, List.getElem_cons_succ, List.getElem_cons_zero, List.setIfInBounds_toArray, List.set_cons_zero, List.set_cons_succ]
        refine wpAnyH_take (i := 3) (oi := _) (v := ?v3n17) rfl (by kernel_rfl) (by kernel_rfl) (by kernel_rfl) (fun _ _ _ h => h) (Or.inl ⟨by rfl, ?hy3n17⟩) (by assumption) ?rest3n17
        case hy3n17 =>
          intro w' hSw
          go_simp
          try with_reducible rfl
        try simp only [Act.put, List.getElem_toArray, List.getElem_cons_succ, List.getElem_cons_zero, List.setIfInBounds_toArray, List.set_cons_zero, List.set_cons_succ]
        refine wpAnyH_take (i := 4) (oi := _) (v := ?v4n18) rfl (by kernel_rfl) (by kernel_rfl) (by kernel_rfl) (fun _ _ _ h => h) (Or.inl ⟨by rfl, ?hy4n18⟩) (by assumption) ?rest4n18
        case hy4n18 =>
          intro w' hSw
          go_simp
          try with_reducible rfl
        try simp only [Act.put, List.getElem_toArray, List.getElem_cons_succ, List.getElem_cons_zero, List.setIfInBounds_toArray, List.set_cons_zero, List.set_cons_succ]
        refine wpAnyH_take (i := 5) (oi := _) (v := ?v5n19) rfl (by kernel_rfl) (by kernel_rfl) (by kernel_rfl) (fun _ _ _ h => h) (Or.inl ⟨by rfl, ?hy5n19⟩) (by assumption) ?rest5n19
        case hy5n19 =>
          intro w' hSw
          go_simp
          try with_reducible rfl
        try simp only [Act.put, List.getElem_toArray, List.getElem_cons_succ, List.getElem_cons_zero, List.setIfInBounds_toArray, List.set_cons_zero, List.set_cons_succ]
        refine wpAnyH_take (i := 6) (oi := _) (v := ?v6n20) rfl (by kernel_rfl) (by kernel_rfl) (by kernel_rfl) (fun _ _ _ h => h) (Or.inl ⟨by rfl, ?hy6n20⟩) (by assumption) ?rest6n20
        case hy6n20 =>
          intro w' hSw
          go_simp
          try with_reducible rfl
        try simp only [Act.put, List.getElem_toArray, List.getElem_cons_succ, List.getElem_cons_zero, List.setIfInBounds_toArray, List.set_cons_zero, List.set_cons_succ]
        refine wpAnyH_take (i := 7) (oi := _) (v := ?v7n21) rfl (by kernel_rfl) (by kernel_rfl) (by kernel_rfl) (fun _ _ _ h => h) (Or.inl ⟨by rfl, ?hy7n21⟩) (by assumption) ?rest7n21
        case hy7n21 =>
          intro w' hSw
          go_simp
          try with_reducible rfl
        try simp only [Act.put, List.getElem_toArray, List.getElem_cons_succ, List.getElem_cons_zero, List.setIfInBounds_toArray, List.set_cons_zero, List.set_cons_succ]
        refine wpAnyH_take (i := 8) (oi := _) (v := ?v8n22) rfl (by kernel_rfl) (by kernel_rfl) (by kernel_rfl) (fun _ _ _ h => h) (Or.inl ⟨by rfl, ?hy8n22⟩) (by assumption) ?rest8n22
        case hy8n22 =>
          intro w' hSw
          go_simp
          try with_reducible rfl
        try simp only [Act.put, List.getElem_toArray, List.getElem_cons_succ, List.getElem_cons_zero, List.setIfInBounds_toArray, List.set_cons_zero, List.set_cons_succ]
        refine' wpAnyH_take (i := 9) (oi := _) (v := _) rfl (by kernel_rfl) (by kernel_rfl) (by kernel_rfl) (fun _ _ _ h => h) (yieldsIf_load_mid (by rfl) _ _ rfl _ _ rfl _ _ ?hS9n23 Tryd.underlying32 rfl HIY.out) (by assumption) ?rest9n23
        case hS9n23 =>
          intro w' hSw
          exact (rngB_d (range_belowG HYR.out (HB0.out.trans (hSw.mono (Nat.le_succ _))) HBB.out))
        try simp only [Act.put, List.getElem_toArray, List.getElem_cons_succ, List.getElem_cons_zero, List.setIfInBounds_toArray, List.set_cons_zero, List.set_cons_succ]
        refine wpAnyH_take (i := 10) (oi := _) (v := ?v10n24) rfl (by kernel_rfl) (by kernel_rfl) (by kernel_rfl) (fun _ _ _ h => h) (Or.inl ⟨by rfl, ?hy10n24⟩) (by assumption) ?rest10n24
        case hy10n24 =>
          intro w' hSw
          go_simp
          try with_reducible rfl
        try simp only [Act.put, List.getElem_toArray, List.getElem_cons_succ, List.getElem_cons_zero, List.setIfInBounds_toArray, List.set_cons_zero, List.set_cons_succ]
        refine' wpAnyH_take (i := 11) (oi := _) (v := _) rfl (by kernel_rfl) (by kernel_rfl) (by kernel_rfl) (fun _ _ _ h => h) (yieldsIf_load_mid (by rfl) _ _ rfl _ _ rfl _ _ ?hS11n25 Tryd.underlying32 rfl HID.out) (by assumption) ?rest11n25
        case hS11n25 =>
          intro w' hSw
          exact (HX0.out.below hSw (Nat.lt_succ_self _)).d
        try simp only [Act.put, List.getElem_toArray, List.getElem_cons_succ, List.getElem_cons_zero, List.setIfInBounds_toArray, List.set_cons_zero, List.set_cons_succ]
        refine wpAnyH_ready (rs := [12]) (by kernel_rfl) (by simp) (AllReadyH.cons (o := _) rfl (fun K hK => ?_) AllReadyH.nil)
        go_simp
        with_reducible refine (hCC _).mono ?_
        rintro e wd ⟨rfl, hb3⟩
        have HBD := Lib.hid (HBE.out.drew.trans (hb3.mono (Nat.le_trans HS0.out HBE.out.size)))
        have HOW := Lib.hid ((HO.out.below ((Below.refl wr.heap.size wr).drew)).below hb3)
        go_wp2_with fail
        refine hK.out _ _ (HBE.out.drew.trans (hb3.mono (Nat.le_trans HS0.out HBE.out.size))) (fun hHeld => ?_)
        clear hK K
        try simp only [Act.put, List.getElem_toArray, List.getElem_cons_succ, List.getElem_cons_zero, List.setIfInBounds_toArray, List.set_cons_zero, List.set_cons_succ]
        refine wpAnyH_take (i := 13) (oi := _) (v := ?v13n26) rfl (by kernel_rfl) (by kernel_rfl) (by kernel_rfl) (fun _ _ _ h => h) (Or.inl ⟨by rfl, ?hy13n26⟩) (by assumption) ?rest13n26
        case hy13n26 =>
          intro w' hSw
          go_simp
          try with_reducible rfl
        try simp only [Act.put, List.getElem_toArray, List.getElem_cons_succ, List.getElem_cons_zero, List.setIfInBounds_toArray, List.set_cons_zero, List.set_cons_succ]
        refine wpAnyH_done (by kernel_rfl) ?_ _
        clear hHeld
        have HYD := Lib.hid (range_belowG HYR.out (HB0.out.trans (HBD.out.mono (Nat.le_succ _))) HBB.out)
        go_wp2_with (first
          | (refine wpList_load_mid rfl 52 _ rfl b (off + k * 33) rfl _ _ HYD.out Tryd.underlying52 rfl HIYB.out ?_)
          | (refine wpList_slice_eqG rfl 22 1 [(0, .tmp 25)] rfl [(0, .agg (blL y).toArray)] rfl _ _ (sliceB _ y HOY.out) ?_; have HZ4 := Lib.hid (BlB.new wd y); have HO4 := Lib.hid (HOW.out.below ((Below.refl wd.heap.size wd).alloc (Nat.le_refl _) (.cells (blL y).toArray 52))); have HB4 := Lib.hid (HBD.out.alloc (Nat.le_trans HS0.out HBD.out.size) (.cells (blL y).toArray 52)); generalize World.alloc wd _ = w4 at *)
          | (at_builtin; refine wpList_append_bl rfl (.tmp 21) (.tmp 26) rfl (w.heap.size + 1) _ (l.take k) k HKL.out rfl HO4.out wd.heap.size y rfl HZ4.out HOY.out (by omega) (Nat.le_trans HS0.out HB4.out.size) ?_; intro sp5 cap5 w5 HO5 HB5 HG5))
        have HB6 := Lib.hid (HB4.out.trans HB5.out)
        go_roundw
        case rel => exact ⟨k + 1, cap5, sp5, rfl, by go_num, by omega, by rw [HT.out]; exact HO5.out, HALL2.out, HB6.out⟩
        case measure => simp [intOf]; omega
    · have hkn : k = n := by omega
      have hd : decide ((k : Int) < (n : Int)) = false := by simp; omega
      have HSTOP := Lib.hid (show ∀ z, l[k]? = some z → dls z.d x.d = false from fun z hz => by rw [List.getElem?_eq_none (by have := HL.out.len; omega)] at hz; cases hz)
      clear hkn
      go_wp2_with fail
      go_quiet (fail)
      have HBD := Lib.hid (HBE.out.trans (show Below (w.heap.size + 1) wr (World.drewN wr nq) from ⟨rfl, rfl, rfl, Nat.le_refl _, fun _ _ => rfl⟩))
      have HOW := Lib.hid (HO.out.below (show Below wr.heap.size wr (World.drewN wr nq) from ⟨rfl, rfl, rfl, Nat.le_refl _, fun _ _ => rfl⟩))
      generalize World.drewN wr nq = wd at *
      go_wp2_with fail
      have HOD := Lib.hid HOW.out
      have HSD := Lib.hid (show w.heap.size + 1 ≤ wd.heap.size from Nat.le_trans HS0.out HBD.out.size)
      refine wp_region_held_drew (S := fun w' => Below (w.heap.size + 1) w0 w') (by kernel_rfl) (HBD.out.drew) (fun hHeld => ?_)
      refine wpAnyH_take (i := 0) (oi := _) (v := ?v0n33) rfl (by kernel_rfl) (by kernel_rfl) (by kernel_rfl) (fun _ _ _ h => h) (Or.inl ⟨by rfl, ?hy0n33⟩) (by assumption) ?rest0n33
      case hy0n33 =>
        intro w' hSw
        go_simp
        try with_reducible rfl
      try simp only [Act.put, List.getElem_toArray, List.getElem_cons_succ, List.getElem_cons_zero, List.setIfInBounds_toArray, List.set_cons_zero, List.set_cons_succ]
      refine' wpAnyH_take (i := 1) (oi := _) (v := _) rfl (by kernel_rfl) (by kernel_rfl) (by kernel_rfl) (fun _ _ _ h => h) (yieldsIf_load_mid (by rfl) _ _ rfl _ _ rfl _ _ ?hS1n34 Tryd.underlying52 rfl HIX.out) (by assumption) ?rest1n34
      case hS1n34 =>
        intro w' hSw
        exact ((HX0.out.below hSw (Nat.lt_succ_self _)).all)
      try simp only [Act.put, List.getElem_toArray, List.getElem_cons_succ, List.getElem_cons_zero, List.setIfInBounds_toArray, List.set_cons_zero, List.set_cons_succ]
      refine wpAnyH_take (i := 4) (oi := _) (v := ?v4n35) rfl (by kernel_rfl) (by kernel_rfl) (by kernel_rfl) (fun _ _ _ h => h) (Or.inl ⟨by rfl, ?hy4n35⟩) (by assumption) ?rest4n35
      case hy4n35 =>
        intro w' hSw
        go_simp
        try with_reducible rfl
      try simp only [Act.put, List.getElem_toArray, List.getElem_cons_succ, List.getElem_cons_zero, List.setIfInBounds_toArray, List.set_cons_zero, List.set_cons_succ]
      refine wpAnyH_take (i := 5) (oi := _) (v := ?v5n36) rfl (by kernel_rfl) (by kernel_rfl) (by kernel_rfl) (fun _ _ _ h => h) (Or.inl ⟨by rfl, ?hy5n36⟩) (by assumption) ?rest5n36
      case hy5n36 =>
        intro w' hSw
        go_simp
        try with_reducible rfl
      try simp only [Act.put, List.getElem_toArray, List.getElem_cons_succ, List.getElem_cons_zero, List.setIfInBounds_toArray, List.set_cons_zero, List.set_cons_succ]
      refine' wpAnyH_take (i := 6) (oi := _) (v := _) rfl (by kernel_rfl) (by kernel_rfl) (by kernel_rfl) (fun _ _ _ h => h) (yieldsIf_fromB (by rfl) _ _ rfl sp n cap k rfl rfl hk) (by assumption) ?rest6n37
      try simp only [Act.put, List.getElem_toArray, List.getElem_cons_succ, List.getElem_cons_zero, List.setIfInBounds_toArray, List.set_cons_zero, List.set_cons_succ]
      refine wpAnyH_ready (rs := [2]) (by kernel_rfl) (by simp) (AllReadyH.cons (o := _) rfl (fun K hK => ?_) AllReadyH.nil)
      rw [if_pos (by rfl)]
      refine wp_slice_eqB 22 1 [(0, .tmp 31)] rfl [(0, .agg (blL x).toArray)] rfl _ _ (sliceB _ x HOX.out) ?_
      have HZ3 := Lib.hid (BlB.new wd.drew x)
      have HB3 := Lib.hid (HBD.out.drew.alloc HSD.out (.cells (blL x).toArray 52))
      have HO3 := Lib.hid (HOD.out.below ((Below.refl wd.heap.size wd).drew.alloc (Nat.le_refl _) (.cells (blL x).toArray 52)))
      generalize World.alloc wd.drew _ = w3 at *
      have HB1 := Lib.hid (BlsIn.one (show BlB w3 wd.heap.size x from HZ3.out) HOX.out (HDX.out.up (HB0.out.trans (HB3.out.mono (Nat.le_succ _))) (Nat.le_refl _)))
      refine hK.out _ _ HB3.out (fun hHeld => ?_)
      clear hK K
      try simp only [Act.put, List.getElem_toArray, List.getElem_cons_succ, List.getElem_cons_zero, List.setIfInBounds_toArray, List.set_cons_zero, List.set_cons_succ]
      refine wpAnyH_ready (rs := [3]) (by kernel_rfl) (by simp) (AllReadyH.cons (o := _) rfl (fun K hK => ?_) AllReadyH.nil)
      rw [if_pos (by rfl)]
      refine wp_append_bls (.tmp 30) (.tmp 32) rfl (w.heap.size + 1) _ (l.take k) k HKL.out rfl HO3.out (some ⟨wd.heap.size, 0, none⟩) 1 1 _ [x] rfl HB1.out (fun h => (by cases h)) (by omega) (Nat.le_trans HS0.out HB3.out.size) ?_
      intro sp4 c4 w4 HO4 HB4 HG4
      have HB5 := Lib.hid (HB3.out.trans HB4.out)
      refine hK.out _ _ HB5.out (fun hHeld => ?_)
      clear hK K
      try simp only [Act.put, List.getElem_toArray, List.getElem_cons_succ, List.getElem_cons_zero, List.setIfInBounds_toArray, List.set_cons_zero, List.set_cons_succ]
      refine wpAnyH_ready (rs := [7]) (by kernel_rfl) (by simp) (AllReadyH.cons (o := _) rfl (fun K hK => ?_) AllReadyH.nil)
      rw [if_pos (by rfl)]
      refine wp_append_bls (.tmp 33) (.tmp 36) rfl (w.heap.size + 1) _ (l.take k ++ [x]) (k + 1) (by rw [List.length_append, ← HKL.out]; rfl) rfl HO4.out _ (n - k) (cap - k) _ _ rfl ((HL.out.below (HB0.out.trans (HB5.out.mono (Nat.le_succ _))) (Nat.le_refl _)).cutB hk) (by rw [slB_none]; exact fun h => by rw [HNIL.out h]; simp) (by omega) (Nat.le_trans HS0.out HB5.out.size) ?_
      intro sp6 c6 w6 HO6 HB6 HG6
      have HB7 := Lib.hid (HB5.out.trans HB6.out)
      refine hK.out _ _ HB7.out (fun hHeld => ?_)
      clear hK K
      try simp only [Act.put, List.getElem_toArray, List.getElem_cons_succ, List.getElem_cons_zero, List.setIfInBounds_toArray, List.set_cons_zero, List.set_cons_succ]
      refine wpAnyH_take (i := 8) (oi := _) (v := ?v8n38) rfl (by kernel_rfl) (by kernel_rfl) (by kernel_rfl) (fun _ _ _ h => h) (Or.inl ⟨by rfl, ?hy8n38⟩) (by assumption) ?rest8n38
      case hy8n38 =>
        intro w' hSw
        go_simp
        try with_reducible rfl
      try simp only [Act.put, List.getElem_toArray, List.getElem_cons_succ, List.getElem_cons_zero, List.setIfInBounds_toArray, List.set_cons_zero, List.set_cons_succ]
      refine wpAnyH_done (by kernel_rfl) ?_ _
      clear hHeld
      have HKN := Lib.hid (show k + 1 + (n - k) = n + 1 by omega)
      have HO8 := Lib.hid (show OwnB w6 w.heap.size (.slice sp6 (k + 1 + (n - k)) c6) (l.take k ++ x :: l.drop k) by have := HO6.out.base (Nat.le_succ w.heap.size); rw [List.append_assoc] at this; exact this)
      go_wp2_with fail
      go_ret
      exact ⟨sp6, c6, k, by rw [← HKN.out]; rfl, by rw [← HKN.out]; exact HO8.out, HALL.out, HSTOP.out, HB0.out.trans (HB7.out.mono (Nat.le_succ _))⟩
end Go.Proofs.YtfehgkpmjnmpeaaDoor
