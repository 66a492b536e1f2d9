/-
  Stores: the walk of the reference's Get (lists of at most 1000000 blobs).
-/
import Derived.Test.YtdjknefbaclleaaGreatDoorGy
import Derived.Test.YtdjknefbaclleaaGreatDoorGg
import Derived.Laws.AppendOwnNone
import Derived.Test.YtdjknefbaclleaaGreatDoorGj
import Derived.Test.YtdjknefbaclleaaGreatDoorGb
import Derived.Test.YtdjknefbaclleaaGreatDoorGc
import Derived.Test.YtdjknefbaclleaaGreatDoorGe
import Derived.Test.YtdjknefbaclleaaGreatDoorNumC
import Derived.Test.YtdjknefbaclleaaGreatDoorStoO
namespace Go.Proofs.YtdjknefbaclleaaGreatDoor
open Go.RowKit

/-- what Get answers, without a copy -/
def GetR (l : List Bl) (d : List Int) (e : Ending) : Prop :=
  (e = .returned (.tuple #[.slice none 0 0, .bool false]) ∧ ∀ x ∈ l, x.d ≠ d) ∨ ∃ (k : Nat) (x : Bl), e = .returned (.tuple #[.slice x.sp x.n x.cap, .bool true]) ∧ l[k]? = some x ∧ x.d = d ∧ ∀ y ∈ l.take k, y.d ≠ d
set_option maxRecDepth 100000 in
set_option maxHeartbeats 1000000 in
theorem rget_any (sp : Option Addr) (n cap : Nat) (l : List Bl) (d : List Int) (w : World) (hl : BlsIn w w.heap.size sp n cap l) (hn : n ≤ 1000000) (hd : D32 d) :
    Calls Tryz.prog 20 #[.slice sp n cap, .agg (d.map (Value.int .u8)).toArray] w fun e w' => GetR l d e ∧ Below w.heap.size w w' := by
  have HL := Lib.hid hl; have HD := Lib.hid hd; clear hl
  have HB := Lib.hid ((Below.refl w.heap.size w).alloc (Nat.le_refl _) (.cells (d.map (Value.int .u8)).toArray 29))
  have hr : (w.alloc (.cells (d.map (Value.int .u8)).toArray 29)).rangeAt w.heap.size 0 (d.map (Value.int .u8)) := range_row (pre := []) (post := []) (heap_alloc_new w _) (by simp) rfl
  have HID := Lib.hid (info_d hd)
  clear hd
  go_enter Tryz.func20, Tryz.ntmps20
  go_wp2_with fail
  generalize hw0 : World.alloc w _ = w0 at HB hr
  have hs0 : w.heap.size < w0.heap.size := by rw [← hw0]; simp
  have HR := Lib.hid hr; clear hr hw0
  go_loopw [6] (fun i wr => ∃ k : Nat, k ≤ n ∧ i = .int .i64 k ∧ Hid (∀ y ∈ l.take k, y.d ≠ d) ∧ Hid (Below w0.heap.size w0 wr)) (fun i _ => n - (intOf i).toNat)
  case atStart => exact ⟨0, Nat.zero_le _, rfl, fun y hy => (by simp at hy), Below.refl _ _⟩
  case round =>
    obtain ⟨k, hk, rfl, HT, hbe⟩ := hrel
    have HBW := Lib.hid (HB.out.trans (hbe.out.mono HB.out.size))
    by_cases hlt : k < n
    · have hd : decide ((k : Int) < (n : Int)) = true := by simp; omega
      obtain ⟨b, off, rfl, hbB, hcap, hr1⟩ := HL.out.cells (by omega)
      obtain ⟨x, hx⟩ : ∃ x, l[k]? = some x := ⟨l[k]'(by have := HL.out.len; omega), List.getElem?_eq_getElem _⟩
      have HOX := Lib.hid (HL.out.ok x (List.mem_of_getElem? hx))
      have HXR := Lib.hid (range_belowG (hr1 k x hx) HBW.out.drew hbB)
      have HX := Lib.hid (rngB_d HXR.out)
      have hx4 := rngB_s HXR.out HOX.out
      have HY := Lib.hid (range_belowG HR.out hbe.out.drew hs0)
      have HIX := Lib.hid (info_d HOX.out)
      have he := eqlD x.d d HOX.out.1 HD.out.1
      obtain ⟨c, hc⟩ : ∃ c, decide (x.d = d) = c := ⟨_, rfl⟩
      rw [hc] at he
      have HC := Lib.hid hc; have HXX := Lib.hid hx
      have p1 : (0 : Int) ≤ (k : Int) := by omega
      have p2 : (k : Int) < (n : Int) := by omega
      have q1 : IntKind.i64.wrap (k : Int) = (k : Int) := IntWalk.i64_in _ (by omega)
      have HB1 := Lib.hid hbe.out.drew; have HB2 := Lib.hid HBW.out.drew
      clear hx hr1 hc
      go_wp2_with fail
      refine wp_region_held_drew (S := fun w' => w'.rangeAt b (off + k * 33) (x.d.map (Value.int .u8)) ∧ w'.rangeAt w.heap.size 0 (d.map (Value.int .u8))) (by kernel_rfl) ⟨HX.out, HY.out⟩ (fun hHeld => ?_)
      refine wpAnyH_take (i := 0) (oi := _) (v := ?v0n1) rfl (by kernel_rfl) (by kernel_rfl) (by kernel_rfl) (fun _ _ _ h => h) (Or.inl ⟨by rfl, ?hy0n1⟩) (by assumption) ?rest0n1
      case hy0n1 =>
        intro w' hSw
        go_simp
        try with_reducible rfl
      try simp only [Act.put, List.getElem_toArray, List.getElem_cons_succ, List.getElem_cons_zero, List.setIfInBounds_toArray, List.set_cons_zero, List.set_cons_succ]
      refine wpAnyH_take (i := 1) (oi := _) (v := ?v1n2) rfl (by kernel_rfl) (by kernel_rfl) (by kernel_rfl) (fun _ _ _ h => h) (Or.inl ⟨by rfl, ?hy1n2⟩) (by assumption) ?rest1n2
      case hy1n2 =>
        intro w' hSw
        go_simp
        try with_reducible rfl
      try simp only [Act.put, List.getElem_toArray, List.getElem_cons_succ, List.getElem_cons_zero, List.setIfInBounds_toArray, List.set_cons_zero, List.set_cons_succ]
      refine wpAnyH_take (i := 2) (oi := _) (v := ?v2n3) rfl (by kernel_rfl) (by kernel_rfl) (by kernel_rfl) (fun _ _ _ h => h) (Or.inl ⟨by rfl, ?hy2n3⟩) (by assumption) ?rest2n3
      case hy2n3 =>
        intro w' hSw
        go_simp
        try with_reducible rfl
      try simp only [Act.put, List.getElem_toArray, List.getElem_cons_succ, List.getElem_cons_zero, List.setIfInBounds_toArray, List.set_cons_zero, List.set_cons_succ]
      refine wpAnyH_take (i := 3) (oi := _) (v := ?v3n4) rfl (by kernel_rfl) (by kernel_rfl) (by kernel_rfl) (fun _ _ _ h => h) (Or.inl ⟨by rfl, ?hy3n4⟩) (by assumption) ?rest3n4
      case hy3n4 =>
        intro w' hSw
        go_simp
        try with_reducible rfl
      try simp only [Act.put, List.getElem_toArray, List.getElem_cons_succ, List.getElem_cons_zero, List.setIfInBounds_toArray, List.set_cons_zero, List.set_cons_succ]
      refine' wpAnyH_take (i := 4) (oi := _) (v := _) rfl (by kernel_rfl) (by kernel_rfl) (by kernel_rfl) (fun _ _ _ h => h) (yieldsIf_load_mid (by rfl) _ _ rfl _ _ rfl _ _ ?hS4n5 Tryz.underlying29 rfl HIX.out) (by assumption) ?rest4n5
      case hS4n5 =>
        intro w' hSw
        exact hSw.1
      try simp only [Act.put, List.getElem_toArray, List.getElem_cons_succ, List.getElem_cons_zero, List.setIfInBounds_toArray, List.set_cons_zero, List.set_cons_succ]
      refine' wpAnyH_take (i := 5) (oi := _) (v := _) rfl (by kernel_rfl) (by kernel_rfl) (by kernel_rfl) (fun _ _ _ h => h) (yieldsIf_load_mid (by rfl) _ _ rfl _ _ rfl _ _ ?hS5n6 Tryz.underlying29 rfl HID.out) (by assumption) ?rest5n6
      case hS5n6 =>
        intro w' hSw
        exact hSw.2
      try simp only [Act.put, List.getElem_toArray, List.getElem_cons_succ, List.getElem_cons_zero, List.setIfInBounds_toArray, List.set_cons_zero, List.set_cons_succ]
      refine wpAnyH_take (i := 6) (oi := _) (v := ?v6n7) rfl (by kernel_rfl) (by kernel_rfl) (by kernel_rfl) (fun _ _ _ h => h) (Or.inl ⟨by rfl, ?hy6n7⟩) (by assumption) ?rest6n7
      case hy6n7 =>
        intro w' hSw
        go_simp
        try with_reducible rfl
      try simp only [Act.put, List.getElem_toArray, List.getElem_cons_succ, List.getElem_cons_zero, List.setIfInBounds_toArray, List.set_cons_zero, List.set_cons_succ]
      refine wpAnyH_done (by kernel_rfl) ?_ _
      clear hHeld
      cases c
      · go_wp2_with fail
        go_roundw
        case rel =>
          refine ⟨k + 1, by omega, by go_num, ?_, HB1⟩
          show ∀ y ∈ l.take (k + 1), y.d ≠ d
          rw [List.take_add_one, HXX.out]
          intro y hm
          rcases List.mem_append.1 hm with hm | hm
          · exact HT.out y hm
          · have e : y = x := by simpa using hm
            rw [e]; exact of_decide_eq_false HC.out
        case measure => simp [intOf]; omega
      · have HE := Lib.hid (of_decide_eq_true HC.out)
        go_wp2_with fail
        go_ret2
        exact ⟨.inr ⟨k, x, rfl, HXX.out, HE.out, HT.out⟩, HB2.out⟩
    · obtain rfl : k = n := by omega
      have hd : decide ((k : Int) < (k : Int)) = false := by simp
      have HM := Lib.hid (show ∀ y ∈ l, y.d ≠ d by
        have h1 := HT.out
        rwa [List.take_of_length_le (by rw [HL.out.len]; exact Nat.le_refl _)] at h1)
      go_wp2_with fail
      go_ret2
      exact ⟨.inl ⟨rfl, HM.out⟩, HBW.out⟩
end Go.Proofs.YtdjknefbaclleaaGreatDoor

namespace Go.Proofs.YtdjknefbaclleaaGreatDoor
open Go.RowKit

/-- where x[k:] begins -/
def slB (sp : Option Addr) (k cap : Nat) : Option Addr := if cap = k then sp else sp.map (·.add (k * 33))
theorem slB_none (k cap : Nat) (sp : Option Addr) : (slB sp k cap = none) = (sp = none) := by
  unfold slB; split
  · rfl
  · simp
set_option maxRecDepth 100000 in
theorem sizeB (w : World) : (sizeOf 50).run Tryz.prog w = .ok 33 w := by
  have h := infoB
  cases hi : Tryz.prog.info? 50 with
  | none => rw [hi] at h; cases h
  | some i => rw [hi] at h; injection h with h; simp [sizeOf, typeInfo, hi, h]
theorem run_fromB (w : World) (sp : Option Addr) (n cap k : Nat) (hk : k ≤ n) :
    (Instr.slice 24 (.slice sp n cap) (some (.int .i64 k)) none none).run Tryz.prog w = .ok (.slice (slB sp k cap) (n - k) (cap - k)) w := by
  have h1 : (0 : Int) ≤ (k : Int) ∧ (k : Int) ≤ (n : Int) := ⟨by omega, by omega⟩
  simp [Instr.slice, Instr.sliceBounds, Instr.sliceBound, asIntOf, run_underlying Tryz.underlying24, sizeB, hk, slB]
theorem yieldsIf_fromB {ops : Array Oper} {S : World → Prop} {op : Oper} {a : Act} (hw : Region.wanted op (yielded ops a.tmps) = true) (x lo : Operand) (ho : op.op = .slice 24 x (some lo) none none)
    (sp : Option Addr) (n cap k : Nat) (hx : a.eval x = .slice sp n cap) (hlo : a.eval lo = .int .i64 k) (hk : k ≤ n) : YieldsIf Tryz.prog ops S op (.slice (slB sp k cap) (n - k) (cap - k)) a :=
  .inl ⟨hw, fun w _ => by
    unfold execOp
    simp only [ho, Option.map_some, Option.map_none, hx, hlo]
    have := run_fromB w sp n cap k hk
    simp [Instr.sliceAt, run_underlying Tryz.underlying24, this]⟩
theorem BlsIn.cutB {w : World} {B : Nat} {sp : Option Addr} {n cap : Nat} {l : List Bl} (h : BlsIn w B sp n cap l) {k : Nat} (hk : k ≤ n) : BlsIn w B (slB sp k cap) (n - k) (cap - k) (l.drop k) :=
  ⟨by rw [List.length_drop, h.len], fun x hx => h.ok x (List.mem_of_mem_drop hx), fun x hx => h.dat x (List.mem_of_mem_drop hx), fun hn => by
    obtain ⟨b, off, rfl, hlt, hc, hr⟩ := h.cells (by omega)
    refine ⟨b, off + k * 33, ?_, hlt, by omega, fun i x hi => ?_⟩
    · unfold slB; rw [if_neg (by omega)]; simp only [Option.map_some, Addr.add_mid]
    · rw [List.getElem?_drop] at hi
      have := hr (k + i) x hi
      rw [show off + (k + i) * 33 = off + k * 33 + i * 33 by omega] at this
      exact this⟩
theorem BlsIn.one {w : World} {b : Nat} {x : Bl} (h : BlB w b x) (hx : OkB x) (hd : DatIn w w.heap.size x) : BlsIn w w.heap.size (some ⟨b, 0, none⟩) 1 1 [x] :=
  ⟨rfl, fun y hy => (by rw [List.mem_singleton.1 hy]; exact hx), fun y hy => (by rw [List.mem_singleton.1 hy]; exact hd), fun _ => ⟨b, 0, rfl, (Array.getElem?_eq_some_iff.1 h).1, Nat.le_refl _, fun i y hi => by
    rcases i with _ | i
    · have e : x = y := by simpa using hi
      subst e; exact h.all
    · simp at hi⟩⟩
theorem wp_slice_eqB {P : Program} {o : Oper} {a : Act} {w : World} {K : Act → World → Prop} {Q : Exit → Act → World → Prop} (t : TypeId) (k : Nat) (parts : List (Nat × Operand)) (ho : o.op = .buildSlice t k parts.toArray)
    (vs : List (Nat × Value)) (hv : (parts.map fun (i, x) => (i, a.eval x)) = vs) (v : Value) (w' : World) (hrun : (Instr.buildSlice t k vs.toArray).run P w = .ok v w') (h : K (a.put o.dst v) w') : o.wp P a w K Q := by
  unfold Oper.wp execOp
  simp only [ho, Sem.run_bind, List.map_toArray, hv, hrun, Result.andThen_ok]
  exact h
set_option maxRecDepth 100000 in
/-- append(own, list...) -/
theorem wp_append_bls {w : World} {o : Oper} {a : Act} {K : Act → World → Prop} {Q : Exit → Act → World → Prop} (s x : Operand)
    (ho : o.op = .call { callee := .builtin .append, args := #[s, x], argTypes := #[24, 24] }) (base : Nat) (v : Value) (l : List Bl) (n : Nat) (hn : n = l.length) (hs : a.eval s = v) (hown : OwnB w base v l)
    (sp2 : Option Addr) (m cap2 B : Nat) (l2 : List Bl) (hx : a.eval x = .slice sp2 m cap2) (hsrc : BlsIn w B sp2 m cap2 l2) (hnil : sp2 = none → cap2 = 0) (hlen : n + m ≤ 1000000) (hbase : base ≤ w.heap.size)
    (h : ∀ sp cap w', Hid (OwnB w' base (.slice sp (n + m) cap) (l ++ l2)) → Hid (Below base w w') → Hid (w.grownBy w' v.ownBlock) → K (a.put o.dst (.slice sp (n + m) cap)) w') : o.wp Tryz.prog a w K Q := by
  subst hn
  obtain ⟨i0, hi0, hz0, hz1, hz2⟩ := info_parts infoB3
  have hl2 := hsrc.len
  cases sp2 with
  | none =>
    have hm : m = 0 := by
      by_cases h0 : 0 < m
      · obtain ⟨_, _, e, _⟩ := hsrc.cells h0; cases e
      · omega
    subst hm
    have e2 : l2 = [] := List.eq_nil_of_length_eq_zero hl2
    subst e2
    rw [hnil rfl] at hx
    have hrun := run_append_owned_none (P := Tryz.prog) (w := w) base 24 o.type 50 i0 33 Tryz.underlying24 hi0 v l.length _ hown.1
    obtain ⟨sp, cap, rfl⟩ := own_shapeG hown.1
    unfold Oper.wp
    simp [execOp, ho, resolve, invoke, builtin, hs, hx, hrun, Result.andThen]
    exact h sp cap w (by show OwnB _ _ _ _; simpa using hown) (Below.refl _ _) (World.grownBy.refl _ _)
  | some ad =>
    refine wp_append_own w s x _ ho base _ i0 _ 33 56 Tryz.underlying24 hi0 hz0 hz1 hz2 rfl (by decide) v l.length _ hs hown.1 ad m cap2 (rowsB l2) hx (by rw [← hl2]; exact flat_lenG blL 33 l2 (fun z hz => blL_length (hsrc.ok z hz))) ?_ rowsB_one (by unfold maxLen; omega) (by omega) hbase ?_
    · intro j u hj
      obtain ⟨y, h1, h2⟩ := flat_getG blL 33 (by decide) l2 (fun z hz => blL_length (hsrc.ok z hz)) j u hj
      have hlt := (List.getElem?_eq_some_iff.1 h1).1
      obtain ⟨b, off, e, _, _, hr⟩ := hsrc.cells (by omega)
      injection e with e; subst e
      have := hr _ y h1 _ u h2
      rw [Addr.add_mid]
      rw [show off + j = off + j / 33 * 33 + j % 33 by omega]
      exact this
    · intro v' w' h1 h2 _
      obtain ⟨sp, cap, rfl⟩ := own_shapeG h1
      refine h sp cap w' ⟨by rw [rowsB_append, List.length_append, hl2]; exact h1, fun z hz => ?_⟩ ((Below.refl base w).grown h2 hbase (own_baseG hown.1)) h2
      rcases List.mem_append.1 hz with hz | hz
      · exact hown.2 z hz
      · exact hsrc.ok z hz
set_option maxRecDepth 100000 in
set_option maxHeartbeats 2000000 in
theorem rinsertB_any (sp : Option Addr) (n cap : Nat) (l : List Bl) (x : Bl) (w : World) (hl : BlsIn w w.heap.size sp n cap l) (hnil : sp = none → cap = 0) (hx : OkB x) (hdx : DatIn w w.heap.size x) (hn : n ≤ 400000) :
    Calls Tryz.prog 33 #[.slice sp n cap, .agg (blL x).toArray] w fun e w' => ∃ sp' cap' k, e = .returned (.slice sp' (n + 1) cap') ∧ OwnB w' w.heap.size (.slice sp' (n + 1) cap') (l.take k ++ x :: l.drop k) ∧ (∀ y ∈ l.take k, dls y.d x.d = true) ∧ (∀ y, l[k]? = some y → dls y.d x.d = false) ∧ Below w.heap.size w w' := by
  have HL := Lib.hid hl; have HNIL := Lib.hid hnil; have HOX := Lib.hid hx; have HDX := Lib.hid hdx
  have HIX := Lib.hid (info_b hx); have HID := Lib.hid (info_d hx)
  have HNW := Lib.hid (BlB.new w x)
  clear hl hnil hx hdx
  go_enter Tryz.func33, Tryz.ntmps33
  go_wp2_with fail
  generalize hw0 : World.alloc w _ = w0
  have HX0 := Lib.hid (show BlB w0 w.heap.size x by rw [← hw0]; exact HNW.out)
  have HB0 := Lib.hid (show Below w.heap.size w w0 by rw [← hw0]; exact (Below.refl _ _).alloc (Nat.le_refl _) _)
  have HS0 := Lib.hid (show w.heap.size + 1 ≤ w0.heap.size by rw [← hw0]; simp)
  clear hw0 HNW
  go_loopw [5, 6] (fun v i wr => ∃ (k c : Nat) (g : Option Addr), v = .slice g k c ∧ i = .int .i64 k ∧ k ≤ n ∧ Hid (OwnB wr (w.heap.size + 1) (.slice g k c) (l.take k) ∧ (∀ y ∈ l.take k, dls y.d x.d = true) ∧ Below (w.heap.size + 1) w0 wr)) (fun _ i _ => n - (intOf i).toNat)
  case atStart => exact ⟨0, 0, none, rfl, rfl, Nat.zero_le _, OwnB.nil _ _, fun y hy => (by simp at hy), Below.refl _ _⟩
  case round =>
    obtain ⟨k, c, gv, rfl, rfl, hk, H⟩ := hrel
    have HO := Lib.hid H.out.1; have HALL := Lib.hid H.out.2.1; have HBE := Lib.hid H.out.2.2
    clear H
    have HKL := Lib.hid (show k = (l.take k).length by rw [List.length_take, HL.out.len]; omega)
    have p1 : (0 : Int) ≤ (k : Int) := by omega
    have q0 : IntKind.i64.wrap (k : Int) = (k : Int) := IntWalk.i64_in _ (by omega)
    by_cases hlt : k < n
    · have hd : decide ((k : Int) < (n : Int)) = true := by simp; omega
      have p2 : (k : Int) < (n : Int) := by omega
      obtain ⟨b, off, rfl, hbB, hcap, hr⟩ := HL.out.cells (by omega)
      obtain ⟨y, hy⟩ : ∃ y, l[k]? = some y := ⟨l[k]'(by have := HL.out.len; omega), List.getElem?_eq_getElem _⟩
      have HYM := Lib.hid (List.mem_of_getElem? hy)
      have HYR := Lib.hid (hr k y hy)
      have HBB := Lib.hid hbB
      have HOY := Lib.hid (HL.out.ok y HYM.out)
      have HIY := Lib.hid (info_d HOY.out); have HIYB := Lib.hid (info_b HOY.out)
      have HT := Lib.hid (show l.take (k + 1) = l.take k ++ [y] by rw [List.take_add_one, hy]; rfl)
      have HYX := Lib.hid hy
      have hCC : ∀ w', Calls Tryz.prog 39 #[.agg (y.d.map (Value.int .u8)).toArray, .agg (x.d.map (Value.int .u8)).toArray] w' fun e w'' => e = .returned (.bool (dls y.d x.d)) ∧ Below w'.heap.size w' w'' := fun w' => less_any y.d x.d w' HOY.out HOX.out
      clear hr hy
      cases hdl : dls y.d x.d
      · rw [hdl] at hCC
        have HSTOP := Lib.hid (show ∀ z, l[k]? = some z → dls z.d x.d = false from fun z hz => by rw [HYX.out] at hz; injection hz with hz; rw [← hz]; exact hdl)
        clear hdl
        go_wp2_with fail
        refine wp_region_held_drew (S := fun w' => Below (w.heap.size + 1) w0 w') (by kernel_rfl) HBE.out.drew (fun hHeld => ?_)
        refine wpAnyH_take (i := 0) (oi := _) (v := ?v0n1) rfl (by kernel_rfl) (by kernel_rfl) (by kernel_rfl) (fun _ _ _ h => h) (Or.inl ⟨by rfl, ?hy0n1⟩) (by assumption) ?rest0n1
        case hy0n1 =>
          intro w' hSw
          go_simp
          try with_reducible rfl
        try simp only [Act.put, List.getElem_toArray, List.getElem_cons_succ, List.getElem_cons_zero, List.setIfInBounds_toArray, List.set_cons_zero, List.set_cons_succ]
        refine wpAnyH_take (i := 1) (oi := _) (v := ?v1n2) rfl (by kernel_rfl) (by kernel_rfl) (by kernel_rfl) (fun _ _ _ h => h) (Or.inl ⟨by rfl, ?hy1n2⟩) (by assumption) ?rest1n2
        case hy1n2 =>
          intro w' hSw
          go_simp
          try with_reducible rfl
        try simp only [Act.put, List.getElem_toArray, List.getElem_cons_succ, List.getElem_cons_zero, List.setIfInBounds_toArray, List.set_cons_zero, List.set_cons_succ]
        refine wpAnyH_take (i := 2) (oi := _) (v := ?v2n3) rfl (by kernel_rfl) (by kernel_rfl) (by kernel_rfl) (fun _ _ _ h => h) (Or.inl ⟨by rfl, ?hy2n3⟩) (by assumption) ?rest2n3
        case hy2n3 =>
          intro w' hSw
          go_simp
          try with_reducible rfl
        try simp only [Act.put, List.getElem_toArray, List.getElem_cons_succ, List.getElem_cons_zero, List.setIfInBounds_toArray, List.set_cons_zero, List.set_cons_succ]
        refine wpAnyH_take (i := 3) (oi := _) (v := ?v3n4) rfl (by kernel_rfl) (by kernel_rfl) (by kernel_rfl) (fun _ _ _ h => h) (Or.inl ⟨by rfl, ?hy3n4⟩) (by assumption) ?rest3n4
        case hy3n4 =>
          intro w' hSw
          go_simp
          try with_reducible rfl
        try simp only [Act.put, List.getElem_toArray, List.getElem_cons_succ, List.getElem_cons_zero, List.setIfInBounds_toArray, List.set_cons_zero, List.set_cons_succ]
        refine wpAnyH_take (i := 4) (oi := _) (v := ?v4n5) rfl (by kernel_rfl) (by kernel_rfl) (by kernel_rfl) (fun _ _ _ h => h) (Or.inl ⟨by rfl, ?hy4n5⟩) (by assumption) ?rest4n5
        case hy4n5 =>
          intro w' hSw
          go_simp
          try with_reducible rfl
        try simp only [Act.put, List.getElem_toArray, List.getElem_cons_succ, List.getElem_cons_zero, List.setIfInBounds_toArray, List.set_cons_zero, List.set_cons_succ]
        refine wpAnyH_take (i := 5) (oi := _) (v := ?v5n6) rfl (by kernel_rfl) (by kernel_rfl) (by kernel_rfl) (fun _ _ _ h => h) (Or.inl ⟨by rfl, ?hy5n6⟩) (by assumption) ?rest5n6
        case hy5n6 =>
          intro w' hSw
          go_simp
          try with_reducible rfl
        try simp only [Act.put, List.getElem_toArray, List.getElem_cons_succ, List.getElem_cons_zero, List.setIfInBounds_toArray, List.set_cons_zero, List.set_cons_succ]
        refine wpAnyH_take (i := 6) (oi := _) (v := ?v6n7) rfl (by kernel_rfl) (by kernel_rfl) (by kernel_rfl) (fun _ _ _ h => h) (Or.inl ⟨by rfl, ?hy6n7⟩) (by assumption) ?rest6n7
        case hy6n7 =>
          intro w' hSw
          go_simp
          try with_reducible rfl
        try simp only [Act.put, List.getElem_toArray, List.getElem_cons_succ, List.getElem_cons_zero, List.setIfInBounds_toArray, List.set_cons_zero, List.set_cons_succ]
        refine wpAnyH_take (i := 7) (oi := _) (v := ?v7n8) rfl (by kernel_rfl) (by kernel_rfl) (by kernel_rfl) (fun _ _ _ h => h) (Or.inl ⟨by rfl, ?hy7n8⟩) (by assumption) ?rest7n8
        case hy7n8 =>
          intro w' hSw
          go_simp
          try with_reducible rfl
        try simp only [Act.put, List.getElem_toArray, List.getElem_cons_succ, List.getElem_cons_zero, List.setIfInBounds_toArray, List.set_cons_zero, List.set_cons_succ]
        refine wpAnyH_take (i := 8) (oi := _) (v := ?v8n9) rfl (by kernel_rfl) (by kernel_rfl) (by kernel_rfl) (fun _ _ _ h => h) (Or.inl ⟨by rfl, ?hy8n9⟩) (by assumption) ?rest8n9
        case hy8n9 =>
          intro w' hSw
          go_simp
          try with_reducible rfl
        try simp only [Act.put, List.getElem_toArray, List.getElem_cons_succ, List.getElem_cons_zero, List.setIfInBounds_toArray, List.set_cons_zero, List.set_cons_succ]
        refine' wpAnyH_take (i := 9) (oi := _) (v := _) rfl (by kernel_rfl) (by kernel_rfl) (by kernel_rfl) (fun _ _ _ h => h) (yieldsIf_load_mid (by rfl) _ _ rfl _ _ rfl _ _ ?hS9n10 Tryz.underlying29 rfl HIY.out) (by assumption) ?rest9n10
        case hS9n10 =>
          intro w' hSw
          exact (rngB_d (range_belowG HYR.out (HB0.out.trans (hSw.mono (Nat.le_succ _))) HBB.out))
        try simp only [Act.put, List.getElem_toArray, List.getElem_cons_succ, List.getElem_cons_zero, List.setIfInBounds_toArray, List.set_cons_zero, List.set_cons_succ]
        refine wpAnyH_take (i := 10) (oi := _) (v := ?v10n11) rfl (by kernel_rfl) (by kernel_rfl) (by kernel_rfl) (fun _ _ _ h => h) (Or.inl ⟨by rfl, ?hy10n11⟩) (by assumption) ?rest10n11
        case hy10n11 =>
          intro w' hSw
          go_simp
          try with_reducible rfl
        try simp only [Act.put, List.getElem_toArray, List.getElem_cons_succ, List.getElem_cons_zero, List.setIfInBounds_toArray, List.set_cons_zero, List.set_cons_succ]
        refine' wpAnyH_take (i := 11) (oi := _) (v := _) rfl (by kernel_rfl) (by kernel_rfl) (by kernel_rfl) (fun _ _ _ h => h) (yieldsIf_load_mid (by rfl) _ _ rfl _ _ rfl _ _ ?hS11n12 Tryz.underlying29 rfl HID.out) (by assumption) ?rest11n12
        case hS11n12 =>
          intro w' hSw
          exact (HX0.out.below hSw (Nat.lt_succ_self _)).d
        try simp only [Act.put, List.getElem_toArray, List.getElem_cons_succ, List.getElem_cons_zero, List.setIfInBounds_toArray, List.set_cons_zero, List.set_cons_succ]
        refine wpAnyH_ready (rs := [12]) (by kernel_rfl) (by simp) (AllReadyH.cons (o := _) rfl (fun K hK => ?_) AllReadyH.nil)
        go_simp
        with_reducible refine (hCC _).mono ?_
        rintro e wd ⟨rfl, hb3⟩
        have HBD := Lib.hid (HBE.out.drew.trans (hb3.mono (Nat.le_trans HS0.out HBE.out.size)))
        have HOW := Lib.hid ((HO.out.below ((Below.refl wr.heap.size wr).drew)).below hb3)
        go_wp2_with fail
        refine hK.out _ _ (HBE.out.drew.trans (hb3.mono (Nat.le_trans HS0.out HBE.out.size))) (fun hHeld => ?_)
        clear hK K
        try simp only [Act.put, List.getElem_toArray, List.getElem_cons_succ, List.getElem_cons_zero, List.setIfInBounds_toArray, List.set_cons_zero, List.set_cons_succ]
        refine wpAnyH_take (i := 13) (oi := _) (v := ?v13n13) rfl (by kernel_rfl) (by kernel_rfl) (by kernel_rfl) (fun _ _ _ h => h) (Or.inl ⟨by rfl, ?hy13n13⟩) (by assumption) ?rest13n13
        case hy13n13 =>
          intro w' hSw
          go_simp
          try with_reducible rfl
        try simp only [Act.put, List.getElem_toArray, List.getElem_cons_succ, List.getElem_cons_zero, List.setIfInBounds_toArray, List.set_cons_zero, List.set_cons_succ]
        refine wpAnyH_done (by kernel_rfl) ?_ _
        clear hHeld
        go_wp2_with fail
        have HOD := Lib.hid HOW.out
        have HSD := Lib.hid (show w.heap.size + 1 ≤ wd.heap.size from Nat.le_trans HS0.out HBD.out.size)
        refine wp_region_held_drew (S := fun w' => Below (w.heap.size + 1) w0 w') (by kernel_rfl) (HBD.out.drew) (fun hHeld => ?_)
        refine wpAnyH_take (i := 0) (oi := _) (v := ?v0n27) rfl (by kernel_rfl) (by kernel_rfl) (by kernel_rfl) (fun _ _ _ h => h) (Or.inl ⟨by rfl, ?hy0n27⟩) (by assumption) ?rest0n27
        case hy0n27 =>
          intro w' hSw
          go_simp
          try with_reducible rfl
        try simp only [Act.put, List.getElem_toArray, List.getElem_cons_succ, List.getElem_cons_zero, List.setIfInBounds_toArray, List.set_cons_zero, List.set_cons_succ]
        refine' wpAnyH_take (i := 1) (oi := _) (v := _) rfl (by kernel_rfl) (by kernel_rfl) (by kernel_rfl) (fun _ _ _ h => h) (yieldsIf_load_mid (by rfl) _ _ rfl _ _ rfl _ _ ?hS1n28 Tryz.underlying50 rfl HIX.out) (by assumption) ?rest1n28
        case hS1n28 =>
          intro w' hSw
          exact ((HX0.out.below hSw (Nat.lt_succ_self _)).all)
        try simp only [Act.put, List.getElem_toArray, List.getElem_cons_succ, List.getElem_cons_zero, List.setIfInBounds_toArray, List.set_cons_zero, List.set_cons_succ]
        refine wpAnyH_take (i := 4) (oi := _) (v := ?v4n29) rfl (by kernel_rfl) (by kernel_rfl) (by kernel_rfl) (fun _ _ _ h => h) (Or.inl ⟨by rfl, ?hy4n29⟩) (by assumption) ?rest4n29
        case hy4n29 =>
          intro w' hSw
          go_simp
          try with_reducible rfl
        try simp only [Act.put, List.getElem_toArray, List.getElem_cons_succ, List.getElem_cons_zero, List.setIfInBounds_toArray, List.set_cons_zero, List.set_cons_succ]
        refine wpAnyH_take (i := 5) (oi := _) (v := ?v5n30) rfl (by kernel_rfl) (by kernel_rfl) (by kernel_rfl) (fun _ _ _ h => h) (Or.inl ⟨by rfl, ?hy5n30⟩) (by assumption) ?rest5n30
        case hy5n30 =>
          intro w' hSw
          go_simp
          try with_reducible rfl
        try simp only [Act.put, List.getElem_toArray, List.getElem_cons_succ, List.getElem_cons_zero, List.setIfInBounds_toArray, List.set_cons_zero, List.set_cons_succ]
        refine' wpAnyH_take (i := 6) (oi := _) (v := _) rfl (by kernel_rfl) (by kernel_rfl) (by kernel_rfl) (fun _ _ _ h => h) (yieldsIf_fromB (by rfl) _ _ rfl (some ⟨b, off, none⟩) n cap k rfl rfl hk) (by assumption) ?rest6n31
        try simp only [Act.put, List.getElem_toArray, List.getElem_cons_succ, List.getElem_cons_zero, List.setIfInBounds_toArray, List.set_cons_zero, List.set_cons_succ]
        refine wpAnyH_ready (rs := [2]) (by kernel_rfl) (by simp) (AllReadyH.cons (o := _) rfl (fun K hK => ?_) AllReadyH.nil)
        rw [if_pos (by rfl)]
        refine wp_slice_eqB 24 1 [(0, .tmp 31)] rfl [(0, .agg (blL x).toArray)] rfl _ _ (sliceB _ x HOX.out) ?_
        have HZ3 := Lib.hid (BlB.new wd.drew x)
        have HB3 := Lib.hid (HBD.out.drew.alloc HSD.out (.cells (blL x).toArray 50))
        have HO3 := Lib.hid (HOD.out.below ((Below.refl wd.heap.size wd).drew.alloc (Nat.le_refl _) (.cells (blL x).toArray 50)))
        generalize World.alloc wd.drew _ = w3 at *
        have HB1 := Lib.hid (BlsIn.one (show BlB w3 wd.heap.size x from HZ3.out) HOX.out (HDX.out.up (HB0.out.trans (HB3.out.mono (Nat.le_succ _))) (Nat.le_refl _)))
        refine hK.out _ _ HB3.out (fun hHeld => ?_)
        clear hK K
        try simp only [Act.put, List.getElem_toArray, List.getElem_cons_succ, List.getElem_cons_zero, List.setIfInBounds_toArray, List.set_cons_zero, List.set_cons_succ]
        refine wpAnyH_ready (rs := [3]) (by kernel_rfl) (by simp) (AllReadyH.cons (o := _) rfl (fun K hK => ?_) AllReadyH.nil)
        rw [if_pos (by rfl)]
        refine wp_append_bls (.tmp 30) (.tmp 32) rfl (w.heap.size + 1) _ (l.take k) k HKL.out rfl HO3.out (some ⟨wd.heap.size, 0, none⟩) 1 1 _ [x] rfl HB1.out (fun h => (by cases h)) (by omega) (Nat.le_trans HS0.out HB3.out.size) ?_
        intro sp4 c4 w4 HO4 HB4 HG4
        have HB5 := Lib.hid (HB3.out.trans HB4.out)
        refine hK.out _ _ HB5.out (fun hHeld => ?_)
        clear hK K
        try simp only [Act.put, List.getElem_toArray, List.getElem_cons_succ, List.getElem_cons_zero, List.setIfInBounds_toArray, List.set_cons_zero, List.set_cons_succ]
        refine wpAnyH_ready (rs := [7]) (by kernel_rfl) (by simp) (AllReadyH.cons (o := _) rfl (fun K hK => ?_) AllReadyH.nil)
        rw [if_pos (by rfl)]
        refine wp_append_bls (.tmp 33) (.tmp 36) rfl (w.heap.size + 1) _ (l.take k ++ [x]) (k + 1) (by rw [List.length_append, ← HKL.out]; rfl) rfl HO4.out _ (n - k) (cap - k) _ _ rfl ((HL.out.below (HB0.out.trans (HB5.out.mono (Nat.le_succ _))) (Nat.le_refl _)).cutB hk) (by rw [slB_none]; exact fun h => by rw [HNIL.out h]; simp) (by omega) (Nat.le_trans HS0.out HB5.out.size) ?_
        intro sp6 c6 w6 HO6 HB6 HG6
        have HB7 := Lib.hid (HB5.out.trans HB6.out)
        refine hK.out _ _ HB7.out (fun hHeld => ?_)
        clear hK K
        try simp only [Act.put, List.getElem_toArray, List.getElem_cons_succ, List.getElem_cons_zero, List.setIfInBounds_toArray, List.set_cons_zero, List.set_cons_succ]
        refine wpAnyH_take (i := 8) (oi := _) (v := ?v8n32) rfl (by kernel_rfl) (by kernel_rfl) (by kernel_rfl) (fun _ _ _ h => h) (Or.inl ⟨by rfl, ?hy8n32⟩) (by assumption) ?rest8n32
        case hy8n32 =>
          intro w' hSw
          go_simp
          try with_reducible rfl
        try simp only [Act.put, List.getElem_toArray, List.getElem_cons_succ, List.getElem_cons_zero, List.setIfInBounds_toArray, List.set_cons_zero, List.set_cons_succ]
        refine wpAnyH_done (by kernel_rfl) ?_ _
        clear hHeld
        have HKN := Lib.hid (show k + 1 + (n - k) = n + 1 by omega)
        have HO8 := Lib.hid (show OwnB w6 w.heap.size (.slice sp6 (k + 1 + (n - k)) c6) (l.take k ++ x :: l.drop k) by have := HO6.out.base (Nat.le_succ w.heap.size); rw [List.append_assoc] at this; exact this)
        go_wp2_with fail
        go_ret
        exact ⟨sp6, c6, k, by rw [← HKN.out]; rfl, by rw [← HKN.out]; exact HO8.out, HALL.out, HSTOP.out, HB0.out.trans (HB7.out.mono (Nat.le_succ _))⟩
      · rw [hdl] at hCC
        have HALL2 := Lib.hid (show ∀ z ∈ l.take (k + 1), dls z.d x.d = true by
          rw [HT.out]; intro z hz
          rcases List.mem_append.1 hz with hz | hz
          · exact HALL.out z hz
          · rw [List.mem_singleton.1 hz]; exact hdl)
        clear hdl
        go_wp2_with fail
        refine wp_region_held_drew (S := fun w' => Below (w.heap.size + 1) w0 w') (by kernel_rfl) HBE.out.drew (fun hHeld => ?_)
        refine wpAnyH_take (i := 0) (oi := _) (v := ?v0n14) rfl (by kernel_rfl) (by kernel_rfl) (by kernel_rfl) (fun _ _ _ h => h) (Or.inl ⟨by rfl, ?hy0n14⟩) (by assumption) ?rest0n14
        case hy0n14 =>
          intro w' hSw
          go_simp
          try with_reducible rfl
        try simp only [Act.put, List.getElem_toArray, List.getElem_cons_succ, List.getElem_cons_zero, List.setIfInBounds_toArray, List.set_cons_zero, List.set_cons_succ]
        refine wpAnyH_take (i := 1) (oi := _) (v := ?v1n15) rfl (by kernel_rfl) (by kernel_rfl) (by kernel_rfl) (fun _ _ _ h => h) (Or.inl ⟨by rfl, ?hy1n15⟩) (by assumption) ?rest1n15
        case hy1n15 =>
          intro w' hSw
          go_simp
          try with_reducible rfl
        try simp only [Act.put, List.getElem_toArray, List.getElem_cons_succ, List.getElem_cons_zero, List.setIfInBounds_toArray, List.set_cons_zero, List.set_cons_succ]
        refine wpAnyH_take (i := 2) (oi := _) (v := ?v2n16) rfl (by kernel_rfl) (by kernel_rfl) (by kernel_rfl) (fun _ _ _ h => h) (Or.inl ⟨by rfl, ?hy2n16⟩) (by assumption) ?rest2n16
        case hy2n16 =>
          intro w' hSw
          go_simp
          try with_reducible rfl
        try simp only [Act.put, List.getElem_toArray, List.getElem_cons_succ, List.getElem_cons_zero, List.setIfInBounds_toArray, List.set_cons_zero, List.set_cons_succ]
        refine wpAnyH_take (i := 3) (oi := _) (v := ?v3n17) rfl (by kernel_rfl) (by kernel_rfl) (by kernel_rfl) (fun _ _ _ h => h) (Or.inl ⟨by rfl, ?hy3n17⟩) (by assumption) ?rest3n17
        case hy3n17 =>
          intro w' hSw
          go_simp
          try with_reducible rfl
        try simp only [Act.put, List.getElem_toArray, List.getElem_cons_succ, List.getElem_cons_zero, List.setIfInBounds_toArray, List.set_cons_zero, List.set_cons_succ]
        refine wpAnyH_take (i := 4) (oi := _) (v := ?v4n18) rfl (by kernel_rfl) (by kernel_rfl) (by kernel_rfl) (fun _ _ _ h => h) (Or.inl ⟨by rfl, ?hy4n18⟩) (by assumption) ?rest4n18
        case hy4n18 =>
          intro w' hSw
          go_simp
          try with_reducible rfl
        try simp only [Act.put, List.getElem_toArray, List.getElem_cons_succ, List.getElem_cons_zero, List.setIfInBounds_toArray, List.set_cons_zero, List.set_cons_succ]
        refine wpAnyH_take (i := 5) (oi := _) (v := ?v5n19) rfl (by kernel_rfl) (by kernel_rfl) (by kernel_rfl) (fun _ _ _ h => h) (Or.inl ⟨by rfl, ?hy5n19⟩) (by assumption) ?rest5n19
        case hy5n19 =>
          intro w' hSw
          go_simp
          try with_reducible rfl
        try simp only [Act.put, List.getElem_toArray, List.getElem_cons_succ, List.getElem_cons_zero, List.setIfInBounds_toArray, List.set_cons_zero, List.set_cons_succ]
        refine wpAnyH_take (i := 6) (oi := _) (v := ?v6n20) rfl (by kernel_rfl) (by kernel_rfl) (by kernel_rfl) (fun _ _ _ h => h) (Or.inl ⟨by rfl, ?hy6n20⟩) (by assumption) ?rest6n20
        case hy6n20 =>
          intro w' hSw
          go_simp
          try with_reducible rfl
        try simp only [Act.put, List.getElem_toArray, List.getElem_cons_succ, List.getElem_cons_zero, List.setIfInBounds_toArray, List.set_cons_zero, List.set_cons_succ]
        refine wpAnyH_take (i := 7) (oi := _) (v := ?v7n21) rfl (by kernel_rfl) (by kernel_rfl) (by kernel_rfl) (fun _ _ _ h => h) (Or.inl ⟨by rfl, ?hy7n21⟩) (by assumption) ?rest7n21
        case hy7n21 =>
          intro w' hSw
          go_simp
          try with_reducible rfl
        try simp only [Act.put, List.getElem_toArray, List.getElem_cons_succ, List.getElem_cons_zero, List.setIfInBounds_toArray, List.set_cons_zero, List.set_cons_succ]
        refine wpAnyH_take (i := 8) (oi := _) (v := ?v8n22) rfl (by kernel_rfl) (by kernel_rfl) (by kernel_rfl) (fun _ _ _ h => h) (Or.inl ⟨by rfl, ?hy8n22⟩) (by assumption) ?rest8n22
        case hy8n22 =>
          intro w' hSw
          go_simp
          try with_reducible rfl
        try simp only [Act.put, List.getElem_toArray, List.getElem_cons_succ, List.getElem_cons_zero, List.setIfInBounds_toArray, List.set_cons_zero, List.set_cons_succ]
        refine' wpAnyH_take (i := 9) (oi := _) (v := _) rfl (by kernel_rfl) (by kernel_rfl) (by kernel_rfl) (fun _ _ _ h => h) (yieldsIf_load_mid (by rfl) _ _ rfl _ _ rfl _ _ ?hS9n23 Tryz.underlying29 rfl HIY.out) (by assumption) ?rest9n23
        case hS9n23 =>
          intro w' hSw
          exact (rngB_d (range_belowG HYR.out (HB0.out.trans (hSw.mono (Nat.le_succ _))) HBB.out))
        try simp only [Act.put, List.getElem_toArray, List.getElem_cons_succ, List.getElem_cons_zero, List.setIfInBounds_toArray, List.set_cons_zero, List.set_cons_succ]
        refine wpAnyH_take (i := 10) (oi := _) (v := ?v10n24) rfl (by kernel_rfl) (by kernel_rfl) (by kernel_rfl) (fun _ _ _ h => h) (Or.inl ⟨by rfl, ?hy10n24⟩) (by assumption) ?rest10n24
        case hy10n24 =>
          intro w' hSw
          go_simp
          try with_reducible rfl
        try simp only [Act.put, List.getElem_toArray, List.getElem_cons_succ, List.getElem_cons_zero, List.setIfInBounds_toArray, List.set_cons_zero, List.set_cons_succ]
        refine' wpAnyH_take (i := 11) (oi := _) (v := _) rfl (by kernel_rfl) (by kernel_rfl) (by kernel_rfl) (fun _ _ _ h => h) (yieldsIf_load_mid (by rfl) _ _ rfl _ _ rfl _ _ ?hS11n25 Tryz.underlying29 rfl HID.out) (by assumption) ?rest11n25
        case hS11n25 =>
          intro w' hSw
          exact (HX0.out.below hSw (Nat.lt_succ_self _)).d
        try simp only [Act.put, List.getElem_toArray, List.getElem_cons_succ, List.getElem_cons_zero, List.setIfInBounds_toArray, List.set_cons_zero, List.set_cons_succ]
        refine wpAnyH_ready (rs := [12]) (by kernel_rfl) (by simp) (AllReadyH.cons (o := _) rfl (fun K hK => ?_) AllReadyH.nil)
        go_simp
        with_reducible refine (hCC _).mono ?_
        rintro e wd ⟨rfl, hb3⟩
        have HBD := Lib.hid (HBE.out.drew.trans (hb3.mono (Nat.le_trans HS0.out HBE.out.size)))
        have HOW := Lib.hid ((HO.out.below ((Below.refl wr.heap.size wr).drew)).below hb3)
        go_wp2_with fail
        refine hK.out _ _ (HBE.out.drew.trans (hb3.mono (Nat.le_trans HS0.out HBE.out.size))) (fun hHeld => ?_)
        clear hK K
        try simp only [Act.put, List.getElem_toArray, List.getElem_cons_succ, List.getElem_cons_zero, List.setIfInBounds_toArray, List.set_cons_zero, List.set_cons_succ]
        refine wpAnyH_take (i := 13) (oi := _) (v := ?v13n26) rfl (by kernel_rfl) (by kernel_rfl) (by kernel_rfl) (fun _ _ _ h => h) (Or.inl ⟨by rfl, ?hy13n26⟩) (by assumption) ?rest13n26
        case hy13n26 =>
          intro w' hSw
          go_simp
          try with_reducible rfl
        try simp only [Act.put, List.getElem_toArray, List.getElem_cons_succ, List.getElem_cons_zero, List.setIfInBounds_toArray, List.set_cons_zero, List.set_cons_succ]
        refine wpAnyH_done (by kernel_rfl) ?_ _
        clear hHeld
        have HYD := Lib.hid (range_belowG HYR.out (HB0.out.trans (HBD.out.mono (Nat.le_succ _))) HBB.out)
        go_wp2_with (first
          | (refine wpList_load_mid rfl 50 _ rfl b (off + k * 33) rfl _ _ HYD.out Tryz.underlying50 rfl HIYB.out ?_)
          | (refine wpList_slice_eqG rfl 24 1 [(0, .tmp 25)] rfl [(0, .agg (blL y).toArray)] rfl _ _ (sliceB _ y HOY.out) ?_; have HZ4 := Lib.hid (BlB.new wd y); have HO4 := Lib.hid (HOW.out.below ((Below.refl wd.heap.size wd).alloc (Nat.le_refl _) (.cells (blL y).toArray 50))); have HB4 := Lib.hid (HBD.out.alloc (Nat.le_trans HS0.out HBD.out.size) (.cells (blL y).toArray 50)); generalize World.alloc wd _ = w4 at *)
          | (at_builtin; refine wpList_append_bl rfl (.tmp 21) (.tmp 26) rfl (w.heap.size + 1) _ (l.take k) k HKL.out rfl HO4.out wd.heap.size y rfl HZ4.out HOY.out (by omega) (Nat.le_trans HS0.out HB4.out.size) ?_; intro sp5 cap5 w5 HO5 HB5 HG5))
        have HB6 := Lib.hid (HB4.out.trans HB5.out)
        go_roundw
        case rel => exact ⟨k + 1, cap5, sp5, rfl, by go_num, by omega, by rw [HT.out]; exact HO5.out, HALL2.out, HB6.out⟩
        case measure => simp [intOf]; omega
    · have hkn : k = n := by omega
      have hd : decide ((k : Int) < (n : Int)) = false := by simp; omega
      have HSTOP := Lib.hid (show ∀ z, l[k]? = some z → dls z.d x.d = false from fun z hz => by rw [List.getElem?_eq_none (by have := HL.out.len; omega)] at hz; cases hz)
      clear hkn
      go_wp2_with fail
      go_quiet (fail)
      have HBD := Lib.hid (HBE.out.trans (show Below (w.heap.size + 1) wr (World.drewN wr nq) from ⟨rfl, rfl, rfl, Nat.le_refl _, fun _ _ => rfl⟩))
      have HOW := Lib.hid (HO.out.below (show Below wr.heap.size wr (World.drewN wr nq) from ⟨rfl, rfl, rfl, Nat.le_refl _, fun _ _ => rfl⟩))
      generalize World.drewN wr nq = wd at *
      go_wp2_with fail
      have HOD := Lib.hid HOW.out
      have HSD := Lib.hid (show w.heap.size + 1 ≤ wd.heap.size from Nat.le_trans HS0.out HBD.out.size)
      refine wp_region_held_drew (S := fun w' => Below (w.heap.size + 1) w0 w') (by kernel_rfl) (HBD.out.drew) (fun hHeld => ?_)
      refine wpAnyH_take (i := 0) (oi := _) (v := ?v0n33) rfl (by kernel_rfl) (by kernel_rfl) (by kernel_rfl) (fun _ _ _ h => h) (Or.inl ⟨by rfl, ?hy0n33⟩) (by assumption) ?rest0n33
      case hy0n33 =>
        intro w' hSw
        go_simp
        try with_reducible rfl
      try simp only [Act.put, List.getElem_toArray, List.getElem_cons_succ, List.getElem_cons_zero, List.setIfInBounds_toArray, List.set_cons_zero, List.set_cons_succ]
      refine' wpAnyH_take (i := 1) (oi := _) (v := _) rfl (by kernel_rfl) (by kernel_rfl) (by kernel_rfl) (fun _ _ _ h => h) (yieldsIf_load_mid (by rfl) _ _ rfl _ _ rfl _ _ ?hS1n34 Tryz.underlying50 rfl HIX.out) (by assumption) ?rest1n34
      case hS1n34 =>
        intro w' hSw
        exact ((HX0.out.below hSw (Nat.lt_succ_self _)).all)
      try simp only [Act.put, List.getElem_toArray, List.getElem_cons_succ, List.getElem_cons_zero, List.setIfInBounds_toArray, List.set_cons_zero, List.set_cons_succ]
      refine wpAnyH_take (i := 4) (oi := _) (v := ?v4n35) rfl (by kernel_rfl) (by kernel_rfl) (by kernel_rfl) (fun _ _ _ h => h) (Or.inl ⟨by rfl, ?hy4n35⟩) (by assumption) ?rest4n35
      case hy4n35 =>
        intro w' hSw
        go_simp
        try with_reducible rfl
      try simp only [Act.put, List.getElem_toArray, List.getElem_cons_succ, List.getElem_cons_zero, List.setIfInBounds_toArray, List.set_cons_zero, List.set_cons_succ]
      refine wpAnyH_take (i := 5) (oi := _) (v := ?v5n36) rfl (by kernel_rfl) (by kernel_rfl) (by kernel_rfl) (fun _ _ _ h => h) (Or.inl ⟨by rfl, ?hy5n36⟩) (by assumption) ?rest5n36
      case hy5n36 =>
        intro w' hSw
        go_simp
        try with_reducible rfl
      try simp only [Act.put, List.getElem_toArray, List.getElem_cons_succ, List.getElem_cons_zero, List.setIfInBounds_toArray, List.set_cons_zero, List.set_cons_succ]
      refine' wpAnyH_take (i := 6) (oi := _) (v := _) rfl (by kernel_rfl) (by kernel_rfl) (by kernel_rfl) (fun _ _ _ h => h) (yieldsIf_fromB (by rfl) _ _ rfl sp n cap k rfl rfl hk) (by assumption) ?rest6n37
      try simp only [Act.put, List.getElem_toArray, List.getElem_cons_succ, List.getElem_cons_zero, List.setIfInBounds_toArray, List.set_cons_zero, List.set_cons_succ]
      refine wpAnyH_ready (rs := [2]) (by kernel_rfl) (by simp) (AllReadyH.cons (o := _) rfl (fun K hK => ?_) AllReadyH.nil)
      rw [if_pos (by rfl)]
      refine wp_slice_eqB 24 1 [(0, .tmp 31)] rfl [(0, .agg (blL x).toArray)] rfl _ _ (sliceB _ x HOX.out) ?_
      have HZ3 := Lib.hid (BlB.new wd.drew x)
      have HB3 := Lib.hid (HBD.out.drew.alloc HSD.out (.cells (blL x).toArray 50))
      have HO3 := Lib.hid (HOD.out.below ((Below.refl wd.heap.size wd).drew.alloc (Nat.le_refl _) (.cells (blL x).toArray 50)))
      generalize World.alloc wd.drew _ = w3 at *
      have HB1 := Lib.hid (BlsIn.one (show BlB w3 wd.heap.size x from HZ3.out) HOX.out (HDX.out.up (HB0.out.trans (HB3.out.mono (Nat.le_succ _))) (Nat.le_refl _)))
      refine hK.out _ _ HB3.out (fun hHeld => ?_)
      clear hK K
      try simp only [Act.put, List.getElem_toArray, List.getElem_cons_succ, List.getElem_cons_zero, List.setIfInBounds_toArray, List.set_cons_zero, List.set_cons_succ]
      refine wpAnyH_ready (rs := [3]) (by kernel_rfl) (by simp) (AllReadyH.cons (o := _) rfl (fun K hK => ?_) AllReadyH.nil)
      rw [if_pos (by rfl)]
      refine wp_append_bls (.tmp 30) (.tmp 32) rfl (w.heap.size + 1) _ (l.take k) k HKL.out rfl HO3.out (some ⟨wd.heap.size, 0, none⟩) 1 1 _ [x] rfl HB1.out (fun h => (by cases h)) (by omega) (Nat.le_trans HS0.out HB3.out.size) ?_
      intro sp4 c4 w4 HO4 HB4 HG4
      have HB5 := Lib.hid (HB3.out.trans HB4.out)
      refine hK.out _ _ HB5.out (fun hHeld => ?_)
      clear hK K
      try simp only [Act.put, List.getElem_toArray, List.getElem_cons_succ, List.getElem_cons_zero, List.setIfInBounds_toArray, List.set_cons_zero, List.set_cons_succ]
      refine wpAnyH_ready (rs := [7]) (by kernel_rfl) (by simp) (AllReadyH.cons (o := _) rfl (fun K hK => ?_) AllReadyH.nil)
      rw [if_pos (by rfl)]
      refine wp_append_bls (.tmp 33) (.tmp 36) rfl (w.heap.size + 1) _ (l.take k ++ [x]) (k + 1) (by rw [List.length_append, ← HKL.out]; rfl) rfl HO4.out _ (n - k) (cap - k) _ _ rfl ((HL.out.below (HB0.out.trans (HB5.out.mono (Nat.le_succ _))) (Nat.le_refl _)).cutB hk) (by rw [slB_none]; exact fun h => by rw [HNIL.out h]; simp) (by omega) (Nat.le_trans HS0.out HB5.out.size) ?_
      intro sp6 c6 w6 HO6 HB6 HG6
      have HB7 := Lib.hid (HB5.out.trans HB6.out)
      refine hK.out _ _ HB7.out (fun hHeld => ?_)
      clear hK K
      try simp only [Act.put, List.getElem_toArray, List.getElem_cons_succ, List.getElem_cons_zero, List.setIfInBounds_toArray, List.set_cons_zero, List.set_cons_succ]
      refine wpAnyH_take (i := 8) (oi := _) (v := ?v8n38) rfl (by kernel_rfl) (by kernel_rfl) (by kernel_rfl) (fun _ _ _ h => h) (Or.inl ⟨by rfl, ?hy8n38⟩) (by assumption) ?rest8n38
      case hy8n38 =>
        intro w' hSw
        go_simp
        try with_reducible rfl
      try simp only [Act.put, List.getElem_toArray, List.getElem_cons_succ, List.getElem_cons_zero, List.setIfInBounds_toArray, List.set_cons_zero, List.set_cons_succ]
      refine wpAnyH_done (by kernel_rfl) ?_ _
      clear hHeld
      have HKN := Lib.hid (show k + 1 + (n - k) = n + 1 by omega)
      have HO8 := Lib.hid (show OwnB w6 w.heap.size (.slice sp6 (k + 1 + (n - k)) c6) (l.take k ++ x :: l.drop k) by have := HO6.out.base (Nat.le_succ w.heap.size); rw [List.append_assoc] at this; exact this)
      go_wp2_with fail
      go_ret
      exact ⟨sp6, c6, k, by rw [← HKN.out]; rfl, by rw [← HKN.out]; exact HO8.out, HALL.out, HSTOP.out, HB0.out.trans (HB7.out.mono (Nat.le_succ _))⟩
end Go.Proofs.YtdjknefbaclleaaGreatDoor

namespace Go.Proofs.YtdjknefbaclleaaGreatDoor
open Go.RowKit

theorem yieldsIf_buildB {P : Program} {ops : Array Oper} {S : World → Prop} {op : Oper} {a : Act} (hw : Region.wanted op (yielded ops a.tmps) = true) (t : TypeId) (parts : List (Nat × Operand)) (ho : op.op = .build t parts.toArray)
    (vs : List (Nat × Value)) (hv : (parts.map fun (i, x) => (i, a.eval x)) = vs) (v : Value) (hrun : ∀ w, S w → (Instr.build t vs.toArray).run P w = .ok v w) : YieldsIf P ops S op v a :=
  .inl ⟨hw, fun w hw' => by
    unfold execOp
    simp only [ho, Sem.run_bind, List.map_toArray, hv, hrun w hw', Result.andThen_ok, Sem.run_pure]⟩
/-- what Put answers where it succeeds: the store as it was, or one blob more at its place -/
def PutOk (sp0 : Option Addr) (n0 cap0 : Nat) (l : List Bl) (x : Bl) (base : Nat) (e : Ending) (w' : World) : Prop :=
  (e = .returned (.tuple #[.slice sp0 n0 cap0, .agg ((x.d).map (Value.int .u8)).toArray, .int .i64 0]) ∧ ∃ y ∈ l, y.d = x.d) ∨
  ((∀ y ∈ l, y.d ≠ x.d) ∧ ∃ sp' cap' k, e = .returned (.tuple #[.slice sp' (n0 + 1) cap', .agg ((x.d).map (Value.int .u8)).toArray, .int .i64 0]) ∧ (∀ y ∈ l.take k, dls y.d x.d = true) ∧ (∀ y, l[k]? = some y → dls y.d x.d = false) ∧ OwnB w' base (.slice sp' (n0 + 1) cap') (l.take k ++ x :: l.drop k))
set_option maxRecDepth 100000 in
set_option maxHeartbeats 2000000 in
theorem rput_ok (sp0 : Option Addr) (n0 cap0 : Nat) (l : List Bl) (sp : Option Addr) (n cap : Nat) (b : List Int) (w : World) (hl : BlsIn w w.heap.size sp0 n0 cap0 l) (hnil0 : sp0 = none → cap0 = 0) (hv : vldP (l.map bp) = true) (hn0 : n0 < 256) (hs : Src w w.heap.size sp n cap b) (hnil : sp = none → cap = 0) (hn : n ≤ 262144) :
    Calls Tryz.prog 14 #[.slice sp0 n0 cap0, .slice sp n cap] w fun e w' => PutOk sp0 n0 cap0 l ⟨shb b, sp, n, cap, b⟩ w.heap.size e w' ∧ Below w.heap.size w w' := by
  have HL := Lib.hid hl; have HNIL0 := Lib.hid hnil0; have HS := Lib.hid hs; have HNIL := Lib.hid hnil; have HV := Lib.hid hv
  have HX : Hid (OkB (⟨shb b, sp, n, cap, b⟩ : Bl)) := shb_ok b
  have HN := Lib.hid (NewZ.new w)
  clear hl hs hnil0 hnil hv
  have hd : decide ((n : Int) > 262144) = false := by simp; omega
  have hd2 : ((n0 : Int) == 256) = false := by simp; omega
  go_enter Tryz.func14, Tryz.ntmps14
  go_wp2_with fail
  generalize hw0 : World.alloc w _ = w0
  have hz : NewZ w w0 := by rw [← hw0]; exact HN.out
  clear hw0 HN
  have HZ := Lib.hid hz; clear hz
  have HVC := Lib.hid (rvalid_bls sp0 n0 cap0 l w0 (HL.out.up HZ.out.b (Nat.le_refl _)) (by omega))
  rw [HV.out] at HVC
  refine HVC.out.mono ?_
  rintro e w1 ⟨rfl, hb1⟩
  have HZ1 := Lib.hid (HZ.out.z.below hb1 HZ.out.z.lt)
  have HB1 := Lib.hid (HZ.out.b.trans (hb1.mono HZ.out.b.size))
  have hs1 : w.heap.size < w1.heap.size := Nat.lt_of_lt_of_le HZ.out.z.lt hb1.size
  clear hb1
  have HSUM := Lib.hid (refSum_any sp n cap b w1 ((HS.out.below HB1.out (Nat.le_refl _)).more HB1.out.size) HNIL.out (by omega))
  go_wp2_with fail
  refine HSUM.out.mono ?_
  rintro e w2 ⟨rfl, hb2⟩
  have HZ2 := Lib.hid (HZ1.out.below hb2 HZ1.out.lt)
  have HB2 := Lib.hid (HB1.out.trans (hb2.mono HB1.out.size))
  have hs2 : w.heap.size < w2.heap.size := Nat.lt_of_lt_of_le hs1 hb2.size
  have HZ2L := Lib.hid hs2
  clear hb2 hs1
  have HD := Lib.hid (heap_alloc_new w2 (.cells (Array.replicate 32 (Value.int .u8 0)) 29))
  go_wp2_with (first
    | (refine wpList_store_row rfl 29 _ _ rfl w2.heap.size _ rfl rfl 29 _ HD.out (dg_info _) (by rw [dg_size]; rfl) (dg_one _) ?_; rw [setRow_new]; generalize hw3 : World.alloc w2 _ = w3; have hr3 : w3.rangeAt w2.heap.size 0 ((shb b).map (Value.int .u8)) := (by rw [← hw3]; exact range_row (pre := []) (post := []) (heap_alloc_new w2 _) (by simp; rfl) rfl); have hb3 : Below w2.heap.size w2 w3 := (by rw [← hw3]; exact (Below.refl _ _).alloc (Nat.le_refl _) _); have hs3 : w2.heap.size < w3.heap.size := (by rw [← hw3]; simp); have HR3 := Lib.hid hr3; have HZ3 := Lib.hid (HZ2.out.below hb3 HZ2.out.lt); have HB3 := Lib.hid (HB2.out.trans (hb3.mono HB2.out.size)); have HS3 := Lib.hid hs3; have HI3 := Lib.hid (info_d (shb_ok b)); clear hw3 hr3 hb3 hs3)
    | (refine wpList_load_mid rfl 29 _ rfl w2.heap.size 0 rfl _ _ HR3.out Tryz.underlying29 rfl HI3.out ?_))
  refine (rget_any sp0 n0 cap0 l (shb b) w3 (HL.out.up HB3.out (Nat.le_refl _)) (by omega) (shb_ok b)).mono ?_
  rintro e w5 ⟨hcase, hb5⟩
  have HR5 := Lib.hid (range_belowG HR3.out hb5 HS3.out)
  have HZ5 := Lib.hid (HZ3.out.below hb5 HZ3.out.lt)
  have HB5 := Lib.hid (HB3.out.trans (hb5.mono HB3.out.size))
  have HL5 := Lib.hid (Nat.lt_of_lt_of_le HS3.out hb5.size)
  clear hb5
  rcases hcase with ⟨rfl, hno⟩ | ⟨k, y, rfl, hy, hyd, _⟩
  · have HFND := Lib.hid hno; clear hno
    go_wp2_with fail
    have HR9' := Lib.hid (show w5.drew.rangeAt w2.heap.size 0 ((shb b).map (Value.int .u8)) from HR5.out)
    have HBD := Lib.hid HB5.out.drew
    have HLD := Lib.hid (show BlsIn w5.drew w5.drew.heap.size sp0 n0 cap0 l from HL.out.up HBD.out (Nat.le_refl _))
    have HDX := Lib.hid (show DatIn w5.drew w5.drew.heap.size ⟨shb b, sp, n, cap, b⟩ from (show DatIn w w.heap.size ⟨shb b, sp, n, cap, b⟩ from ⟨HS.out, HNIL.out⟩).up HBD.out (Nat.le_refl _))
    have HCON := Lib.hid (rinsertB_any sp0 n0 cap0 l ⟨shb b, sp, n, cap, b⟩ w5.drew HLD.out HNIL0.out HX.out HDX.out (by omega))
    refine wp_region_held_drew (S := fun w' => w'.rangeAt w2.heap.size 0 ((shb b).map (Value.int .u8))) (by kernel_rfl) HR9'.out (fun hHeld => ?_)
    refine wpAnyH_take (i := 0) (oi := _) (v := ?v0n5) rfl (by kernel_rfl) (by kernel_rfl) (by kernel_rfl) (fun _ _ _ h => h) (Or.inl ⟨by rfl, ?hy0n5⟩) (by assumption) ?rest0n5
    case hy0n5 =>
      intro w' hSw
      go_simp
      try with_reducible rfl
    try simp only [Act.put, List.getElem_toArray, List.getElem_cons_succ, List.getElem_cons_zero, List.setIfInBounds_toArray, List.set_cons_zero, List.set_cons_succ]
    refine' wpAnyH_take (i := 1) (oi := _) (v := _) rfl (by kernel_rfl) (by kernel_rfl) (by kernel_rfl) (fun _ _ _ h => h) (yieldsIf_load_mid (by rfl) _ _ rfl _ _ rfl _ _ ?hS1n6 Tryz.underlying29 rfl HI3.out) (by assumption) ?rest1n6
    case hS1n6 =>
      intro w' hSw
      exact hSw
    try simp only [Act.put, List.getElem_toArray, List.getElem_cons_succ, List.getElem_cons_zero, List.setIfInBounds_toArray, List.set_cons_zero, List.set_cons_succ]
    refine wpAnyH_take (i := 2) (oi := _) (v := ?v2n7) rfl (by kernel_rfl) (by kernel_rfl) (by kernel_rfl) (fun _ _ _ h => h) (Or.inl ⟨by rfl, ?hy2n7⟩) (by assumption) ?rest2n7
    case hy2n7 =>
      intro w' hSw
      go_simp
      try with_reducible rfl
    try simp only [Act.put, List.getElem_toArray, List.getElem_cons_succ, List.getElem_cons_zero, List.setIfInBounds_toArray, List.set_cons_zero, List.set_cons_succ]
    refine wpAnyH_take (i := 3) (oi := _) (v := _) rfl (by kernel_rfl) (by kernel_rfl) (by kernel_rfl) (fun _ _ _ h => h) (yieldsIf_buildB (by rfl) 50 [(0, .tmp 34), (1, .tmp 35)] rfl [(0, .agg ((shb b).map (Value.int .u8)).toArray), (1, .slice sp n cap)] rfl _ (fun w' _ => buildB ⟨shb b, sp, n, cap, b⟩ HX.out w')) (by assumption) ?rest3n8
    try simp only [Act.put, List.getElem_toArray, List.getElem_cons_succ, List.getElem_cons_zero, List.setIfInBounds_toArray, List.set_cons_zero, List.set_cons_succ]
    refine' wpAnyH_take (i := 5) (oi := _) (v := _) rfl (by kernel_rfl) (by kernel_rfl) (by kernel_rfl) (fun _ _ _ h => h) (yieldsIf_load_mid (by rfl) _ _ rfl _ _ rfl _ _ ?hS5n9 Tryz.underlying29 rfl HI3.out) (by assumption) ?rest5n9
    case hS5n9 =>
      intro w' hSw
      exact hSw
    try simp only [Act.put, List.getElem_toArray, List.getElem_cons_succ, List.getElem_cons_zero, List.setIfInBounds_toArray, List.set_cons_zero, List.set_cons_succ]
    refine wpAnyH_ready (rs := [4]) (by kernel_rfl) (by simp) (AllReadyH.cons (o := _) rfl (fun K hK => ?_) AllReadyH.nil)
    go_simp
    with_reducible refine (HCON.out).mono ?_
    rintro e w6 ⟨sp6, cap6, k, rfl, ho6, h1, h2, hb6⟩
    have HR9 := Lib.hid (range_belowG (w := w5.drew) HR5.out hb6 (show w2.heap.size < w5.heap.size from HL5.out))
    have HZ9 := Lib.hid (Zrow.below (w := w5.drew) HZ5.out hb6 (show w.heap.size < w5.heap.size from Nat.lt_of_lt_of_le HZ2L.out (Nat.le_of_lt HL5.out)))
    have HB9 := Lib.hid (HBD.out.trans (hb6.mono HBD.out.size))
    have HO6 := Lib.hid ho6
    have HH12 := Lib.hid (And.intro h1 h2)
    have HL9 := Lib.hid (show w2.heap.size < w6.heap.size from Nat.lt_of_lt_of_le HL5.out hb6.size)
    have HN9 := Lib.hid (show w2.heap.size ≠ w.heap.size from fun h => by have := HZ2L.out; omega)
    clear ho6 h1 h2 hb6
    go_wp2_with fail
    refine hK.out _ _ HR9.out (fun hHeld => ?_)
    clear hK K
    try simp only [Act.put, List.getElem_toArray, List.getElem_cons_succ, List.getElem_cons_zero, List.setIfInBounds_toArray, List.set_cons_zero, List.set_cons_succ]
    refine wpAnyH_take (i := 6) (oi := _) (v := ?v6n10) rfl (by kernel_rfl) (by kernel_rfl) (by kernel_rfl) (fun _ _ _ h => h) (Or.inl ⟨by rfl, ?hy6n10⟩) (by assumption) ?rest6n10
    case hy6n10 =>
      intro w' hSw
      go_simp
      try with_reducible rfl
    try simp only [Act.put, List.getElem_toArray, List.getElem_cons_succ, List.getElem_cons_zero, List.setIfInBounds_toArray, List.set_cons_zero, List.set_cons_succ]
    refine wpAnyH_ready (rs := [7]) (by kernel_rfl) (by simp) (AllReadyH.cons (o := _) rfl (fun K hK => ?_) AllReadyH.nil)
    rw [if_pos (by rfl)]
    refine wp_store_row 29 _ _ rfl w.heap.size _ rfl rfl 29 _ (HZ9.out) (by simpa using HI3.out) (by simp [shb_len]) (oneCell_map _ _) ?_
    have hg7 : (World.setRow w6 w.heap.size ((shb b).map (Value.int .u8)).toArray).heap[w.heap.size]? = some (.cells ((shb b).map (Value.int .u8)).toArray 29 (0, 0)) := setRow_heap _ _ _ _ _ _ HZ9.out
    have hgr7 := grown_setRowG w6 w.heap.size ((shb b).map (Value.int .u8)).toArray
    have hb7 : Below w.heap.size w (World.setRow w6 w.heap.size ((shb b).map (Value.int .u8)).toArray) := below_setRow HB9.out (Nat.le_refl _) _
    have hr7 : (World.setRow w6 w.heap.size ((shb b).map (Value.int .u8)).toArray).rangeAt w2.heap.size 0 ((shb b).map (Value.int .u8)) := range_grownG HR9.out hgr7 HL9.out HN9.out
    generalize hw7 : World.setRow w6 w.heap.size _ = w7 at hg7 hgr7 hb7 hr7
    have HG7 := Lib.hid hg7; have HGR7 := Lib.hid hgr7; have HB7 := Lib.hid hb7; have HR7 := Lib.hid hr7
    clear hw7 hg7 hgr7 hb7 hr7
    refine hK.out _ _ HR7.out (fun hHeld => ?_)
    clear hK K
    try simp only [Act.put, List.getElem_toArray, List.getElem_cons_succ, List.getElem_cons_zero, List.setIfInBounds_toArray, List.set_cons_zero, List.set_cons_succ]
    refine wpAnyH_take (i := 8) (oi := _) (v := ?v8n11) rfl (by kernel_rfl) (by kernel_rfl) (by kernel_rfl) (fun _ _ _ h => h) (Or.inl ⟨by rfl, ?hy8n11⟩) (by assumption) ?rest8n11
    case hy8n11 =>
      intro w' hSw
      go_simp
      try with_reducible rfl
    try simp only [Act.put, List.getElem_toArray, List.getElem_cons_succ, List.getElem_cons_zero, List.setIfInBounds_toArray, List.set_cons_zero, List.set_cons_succ]
    refine wpAnyH_done (by kernel_rfl) ?_ _
    clear hHeld
    go_wp2_with fail
    refine bodyPost_ret (results_mixG (P := Tryz.prog) rfl _ _ w.heap.size 29 _ (0, 0) _ rfl HG7.out Tryz.underlying29 rfl (by simpa using HI3.out)) rfl ?_
    exact ⟨.inr ⟨HFND.out, sp6, cap6, k, rfl, HH12.out.1, HH12.out.2, ⟨own_lessG (HO6.out.1.kept HGR7.out (own_neG HO6.out.1 (show w.heap.size < w5.heap.size from Nat.lt_of_lt_of_le HZ2L.out (Nat.le_of_lt HL5.out)))) (show w.heap.size ≤ w5.heap.size from Nat.le_trans (Nat.le_of_lt HZ2L.out) (Nat.le_of_lt HL5.out)), HO6.out.2⟩⟩, HB7.out⟩
  · have HFND := Lib.hid (show ∃ y ∈ l, y.d = shb b from ⟨y, List.mem_of_getElem? hy, hyd⟩); clear hy hyd
    go_wp2_with fail
    have HR9 := Lib.hid (show w5.drew.rangeAt w2.heap.size 0 ((shb b).map (Value.int .u8)) from HR5.out)
    have HZ9 := Lib.hid (show Zrow w5.drew w.heap.size from HZ5.out)
    have HB9 := Lib.hid HB5.out.drew
    have HL9 := Lib.hid (show w2.heap.size < w5.drew.heap.size from HL5.out)
    have HN9 := Lib.hid (show w2.heap.size ≠ w.heap.size from fun h => by omega)
    refine wp_region_held_drew (S := fun w' => w'.rangeAt w2.heap.size 0 ((shb b).map (Value.int .u8))) (by kernel_rfl) HR9.out (fun hHeld => ?_)
    refine wpAnyH_take (i := 0) (oi := _) (v := ?v0n1) rfl (by kernel_rfl) (by kernel_rfl) (by kernel_rfl) (fun _ _ _ h => h) (Or.inl ⟨by rfl, ?hy0n1⟩) (by assumption) ?rest0n1
    case hy0n1 =>
      intro w' hSw
      go_simp
      try with_reducible rfl
    try simp only [Act.put, List.getElem_toArray, List.getElem_cons_succ, List.getElem_cons_zero, List.setIfInBounds_toArray, List.set_cons_zero, List.set_cons_succ]
    refine' wpAnyH_take (i := 1) (oi := _) (v := _) rfl (by kernel_rfl) (by kernel_rfl) (by kernel_rfl) (fun _ _ _ h => h) (yieldsIf_load_mid (by rfl) _ _ rfl _ _ rfl _ _ ?hS1n2 Tryz.underlying29 rfl HI3.out) (by assumption) ?rest1n2
    case hS1n2 =>
      intro w' hSw
      exact hSw
    try simp only [Act.put, List.getElem_toArray, List.getElem_cons_succ, List.getElem_cons_zero, List.setIfInBounds_toArray, List.set_cons_zero, List.set_cons_succ]
    refine wpAnyH_take (i := 2) (oi := _) (v := ?v2n3) rfl (by kernel_rfl) (by kernel_rfl) (by kernel_rfl) (fun _ _ _ h => h) (Or.inl ⟨by rfl, ?hy2n3⟩) (by assumption) ?rest2n3
    case hy2n3 =>
      intro w' hSw
      go_simp
      try with_reducible rfl
    try simp only [Act.put, List.getElem_toArray, List.getElem_cons_succ, List.getElem_cons_zero, List.setIfInBounds_toArray, List.set_cons_zero, List.set_cons_succ]
    refine wpAnyH_ready (rs := [3]) (by kernel_rfl) (by simp) (AllReadyH.cons (o := _) rfl (fun K hK => ?_) AllReadyH.nil)
    rw [if_pos (by rfl)]
    refine wp_store_row 29 _ _ rfl w.heap.size _ rfl rfl 29 _ (HZ9.out) (by simpa using HI3.out) (by simp [shb_len]) (oneCell_map _ _) ?_
    have hg7 : (World.setRow w5.drew w.heap.size ((shb b).map (Value.int .u8)).toArray).heap[w.heap.size]? = some (.cells ((shb b).map (Value.int .u8)).toArray 29 (0, 0)) := setRow_heap _ _ _ _ _ _ HZ9.out
    have hgr7 := grown_setRowG w5.drew w.heap.size ((shb b).map (Value.int .u8)).toArray
    have hb7 : Below w.heap.size w (World.setRow w5.drew w.heap.size ((shb b).map (Value.int .u8)).toArray) := below_setRow HB9.out (Nat.le_refl _) _
    have hr7 : (World.setRow w5.drew w.heap.size ((shb b).map (Value.int .u8)).toArray).rangeAt w2.heap.size 0 ((shb b).map (Value.int .u8)) := range_grownG HR9.out hgr7 HL9.out HN9.out
    generalize hw7 : World.setRow w5.drew w.heap.size _ = w7 at hg7 hgr7 hb7 hr7
    have HG7 := Lib.hid hg7; have HGR7 := Lib.hid hgr7; have HB7 := Lib.hid hb7; have HR7 := Lib.hid hr7
    clear hw7 hg7 hgr7 hb7 hr7
    refine hK.out _ _ HR7.out (fun hHeld => ?_)
    clear hK K
    try simp only [Act.put, List.getElem_toArray, List.getElem_cons_succ, List.getElem_cons_zero, List.setIfInBounds_toArray, List.set_cons_zero, List.set_cons_succ]
    refine wpAnyH_take (i := 4) (oi := _) (v := ?v4n4) rfl (by kernel_rfl) (by kernel_rfl) (by kernel_rfl) (fun _ _ _ h => h) (Or.inl ⟨by rfl, ?hy4n4⟩) (by assumption) ?rest4n4
    case hy4n4 =>
      intro w' hSw
      go_simp
      try with_reducible rfl
    try simp only [Act.put, List.getElem_toArray, List.getElem_cons_succ, List.getElem_cons_zero, List.setIfInBounds_toArray, List.set_cons_zero, List.set_cons_succ]
    refine wpAnyH_done (by kernel_rfl) ?_ _
    clear hHeld
    go_wp2_with fail
    refine bodyPost_ret (results_mixG (P := Tryz.prog) rfl _ _ w.heap.size 29 _ (0, 0) _ rfl HG7.out Tryz.underlying29 rfl (by simpa using HI3.out)) rfl ?_
    exact ⟨.inl ⟨rfl, HFND.out⟩, HB7.out⟩
end Go.Proofs.YtdjknefbaclleaaGreatDoor

namespace Go.Proofs.YtdjknefbaclleaaGreatDoor
open Go.RowKit

theorem enc_le (ls : List (List ByteArray)) : (enc ls).2.length ≤ 262144 := by
  unfold enc
  split
  · split
    · simp
    · rename_i h; simp only []; omega
  · simp
def intsU (l : List UInt8) : List Int := l.map fun u => (u.toNat : Int)
theorem cells_ints (l : List UInt8) : Lib.byteCells l = (intsU l).map (Value.int .u8) := by unfold Lib.byteCells intsU; rw [List.map_map]; rfl
theorem intsU_byt (l : List UInt8) : Byt (intsU l) := fun x hx => by
  obtain ⟨u, _, rfl⟩ := List.mem_map.1 hx
  have := u.toNat_lt
  constructor <;> omega
theorem intsU_len (l : List UInt8) : (intsU l).length = l.length := by simp [intsU]
/-- its data lies in a row of bytes that the call owns -/
def OwnU (w : World) (base : Nat) (x : Bl) : Prop := w.ownsRow base 5 1 (.slice x.sp x.n x.cap) x.n (x.b.map (Value.int .u8)) ∧ Byt x.b
theorem OwnU.dat {w : World} {base : Nat} {x : Bl} (h : OwnU w base x) : DatIn w w.heap.size x := by
  obtain ⟨⟨hl, h1⟩, hb⟩ := h
  have hlen : x.b.length = x.n := by rw [List.length_map] at hl; omega
  refine ⟨⟨hlen, hb, fun hp => ?_⟩, fun hs => ?_⟩
  · rcases h1 with ⟨_, h0⟩ | ⟨g, cap, cur, e, _, hg, hle, _, hsz, htk⟩
    · omega
    · injection e with e1 e2 e3
      refine ⟨g, 0, e1, (Array.getElem?_eq_some_iff.1 hg).1, by rw [e3]; exact hle, fun j hj => ?_⟩
      rw [Nat.zero_add, cell_of_row w g j cur _ _ hg]
      have h4 : (cur.toList.take (x.n * 1))[j]? = (x.b.map (Value.int .u8))[j]? := by rw [htk]
      rw [List.getElem?_take, if_pos (by omega), getD_mapD x.b j (by omega)] at h4
      simpa using h4
  · rcases h1 with ⟨e, h0⟩ | ⟨g, cap, cur, e, _⟩
    · injection e with e1 e2 e3
    · injection e with e1; rw [hs] at e1; cases e1
theorem OwnU.below {w w' : World} {base : Nat} {x : Bl} (h : OwnU w base x) (hb : Below w.heap.size w w') : OwnU w' base x := ⟨own_belowG h.1 hb, h.2⟩
theorem OwnU.base {w : World} {b b' : Nat} {x : Bl} (h : OwnU w b x) (hb : b' ≤ b) : OwnU w b' x := ⟨own_lessG h.1 hb, h.2⟩
/-- rows of different types are different rows -/
theorem own_neT {w : World} {b1 b2 e1 e2 s1 s2 n1 n2 : Nat} {v1 v2 : Value} {x1 x2 : List Value} (h1 : w.ownsRow b1 e1 s1 v1 n1 x1) (h2 : w.ownsRow b2 e2 s2 v2 n2 x2) (hne : e1 ≠ e2) : v1.ownBlock = none ∨ v1.ownBlock ≠ v2.ownBlock := by
  obtain ⟨_, ⟨rfl, _⟩ | ⟨g, cap, cur, rfl, _, hg, _⟩⟩ := h1
  · exact .inl rfl
  · obtain ⟨_, ⟨rfl, _⟩ | ⟨g', cap', cur', rfl, _, hg', _⟩⟩ := h2
    · exact .inr (by simp [Value.ownBlock])
    · refine .inr fun e => ?_
      have e' : g = g' := by simpa [Value.ownBlock] using e
      subst e'
      rw [hg] at hg'
      injection hg' with hg'; injection hg' with _ h _
      exact hne h
/-- a store whose rows the call owns -/
structure Sto (w : World) (base : Nat) (sp : Option Addr) (n c : Nat) (l : List Bl) : Prop where
  own : OwnB w base (.slice sp n c) l
  dat : ∀ x ∈ l, OwnU w base x
theorem Sto.nil (w : World) (base : Nat) : Sto w base none 0 0 [] := ⟨OwnB.nil w base, fun x hx => by cases hx⟩
theorem Sto.bls {w : World} {base : Nat} {sp : Option Addr} {n c : Nat} {l : List Bl} (h : Sto w base sp n c l) (hn : l.length = n) : BlsIn w w.heap.size sp n c l := h.own.bls hn (fun x hx => (h.dat x hx).dat)
theorem Sto.below {w w' : World} {base : Nat} {sp : Option Addr} {n c : Nat} {l : List Bl} (h : Sto w base sp n c l) (hb : Below w.heap.size w w') : Sto w' base sp n c l := ⟨h.own.below hb, fun x hx => (h.dat x hx).below hb⟩
theorem ne_types : 50 ≠ 29 ∧ 5 ≠ 29 := by decide
theorem Sto.kept {w w' : World} {base b2 : Nat} {sp : Option Addr} {n c : Nat} {l : List Bl} {v : Value} {ds : List (List Int)} (h : Sto w base sp n c l) (hd : OwnDg w b2 v ds) (hg : w.grownBy w' v.ownBlock) : Sto w' base sp n c l :=
  ⟨⟨h.own.1.kept hg (own_neT h.own.1 hd.1 ne_types.1), h.own.2⟩, fun x hx => ⟨(h.dat x hx).1.kept hg (own_neT (h.dat x hx).1 hd.1 ne_types.2), (h.dat x hx).2⟩⟩
/-- strings that the call owns -/
theorem infoStrK : (Tryz.prog.info? 9).map (fun i => (i.zero, i.size, i.bytes)) = some (some (.string ⟨#[]⟩), 1, 16) := by kernel_rfl
def OwnSt (w : World) (base : Nat) (v : Value) (l : List ByteArray) : Prop := w.ownsRow base 9 1 v l.length (l.map Value.string)
theorem OwnSt.below {w w' : World} {base : Nat} {v : Value} {l : List ByteArray} (h : OwnSt w base v l) (hb : Below w.heap.size w w') : OwnSt w' base v l := own_belowG h hb
theorem OwnSt.two (w : World) (b base : Nat) (x y : ByteArray) (h : w.heap[b]? = some (.cells #[.string x, .string y] 9 (0, 0))) (hb : base ≤ b) : OwnSt w base (.slice (some ⟨b, 0, none⟩) 2 2) [x, y] :=
  ⟨rfl, .inr ⟨b, 2, #[.string x, .string y], rfl, hb, h, Nat.le_refl _, by unfold maxLen; omega, rfl, rfl⟩⟩
/-- append(own, x) -/
theorem wpList_append_ss {w : World} {ops : Array Oper} {rest : List Oper} {o : Oper} {a : Act} {Q : Exit → Act → World → Prop} (hgd : o.guard = none) (s x : Operand)
    (ho : o.op = .call { callee := .builtin .append, args := #[s, x], argTypes := #[40, 40] }) (base : Nat) (v : Value) (l : List ByteArray) (n : Nat) (hn : n = l.length) (hs : a.eval s = v) (hown : OwnSt w base v l)
    (g : Nat) (y : ByteArray) (hx : a.eval x = .slice (some ⟨g, 0, none⟩) 1 1) (hy : w.heap[g]? = some (.cells #[.string y] 9 (0, 0))) (hlen : n ≤ 1000000) (hbase : base ≤ w.heap.size)
    (h : ∀ sp cap w', Hid (OwnSt w' base (.slice sp (n + 1) cap) (l ++ [y])) → Hid (Below base w w') → Hid (w.grownBy w' v.ownBlock) → wpList Tryz.prog ops Q rest (a.put o.dst (.slice sp (n + 1) cap)) w') : wpList Tryz.prog ops Q (o :: rest) a w := by
  subst hn
  obtain ⟨i0, hi0, hz0, hz1, hz2⟩ := info_parts infoStrK
  refine wpList_append_own w hgd s x _ ho base _ i0 _ 1 16 Tryz.underlying40 hi0 hz0 hz1 hz2 rfl (by decide) v l.length _ hs hown ⟨g, 0, none⟩ 1 1 [.string y] hx rfl ?_ (by intro u hu; rw [List.mem_singleton.1 hu]; rfl) (by unfold maxLen; omega) (by omega) hbase ?_
  · intro j u hj
    rw [Addr.add_mid, cell_of_row w g (0 + j) _ _ _ hy, Nat.zero_add]
    simpa using hj
  · intro v' w' h1 h2 _
    obtain ⟨sp, cap, rfl⟩ := own_shapeG h1
    refine h sp cap w' ?_ ((Below.refl base w).grown h2 hbase (own_baseG hown)) h2
    show OwnSt _ _ _ _
    unfold OwnSt
    rw [List.length_append, List.map_append]
    exact h1
theorem OwnSt.strs {w : World} {base : Nat} {sp : Option Addr} {n cap : Nat} {l : List ByteArray} (h : OwnSt w base (.slice sp n cap) l) (hn : l.length = n) : StrsIn w w.heap.size sp n l := by
  refine ⟨hn, fun hp => ?_⟩
  have h1 := h
  obtain ⟨_, ⟨e, h0⟩ | ⟨g, cap', cur, e, _⟩⟩ := h1
  · omega
  · injection e with e1 e2 e3
    subst e1
    have h2 : w.ownsRow base 9 1 (.slice (some ⟨g, 0, none⟩) n cap) l.length (l.flatMap fun x => [Value.string x]) := by
      rw [← List.map_eq_flatMap]; exact h
    obtain ⟨hlt, _, hr⟩ := own_rangeG h2 (fun _ _ => rfl) hn
    refine ⟨g, 0, rfl, hlt, fun j hj => ?_⟩
    have h3 := hr j l[j] (List.getElem?_eq_getElem hj) 0 _ rfl
    rw [Nat.mul_one] at h3
    exact h3
theorem idx_val (v : Int) (m : Nat) (hm : 1 ≤ m) (hm2 : m ≤ 1000000) : ∃ r : Nat, r < m ∧ (wrap64 (v.tmod m + m)).tmod m = r := by
  have h1 : v.tmod m < m := Int.tmod_lt_of_pos _ (by omega)
  have h2 : -(m : Int) < v.tmod m := by have := Int.lt_tmod_of_pos v (b := (m : Int)) (by omega); omega
  have h3 : wrap64 (v.tmod m + m) = v.tmod m + m := by unfold wrap64; omega
  rw [h3, Int.tmod_eq_emod_of_nonneg (by omega)]
  have h4 := Int.emod_nonneg (v.tmod m + m) (b := (m : Int)) (by omega)
  have h5 := Int.emod_lt_of_pos (v.tmod m + m) (b := (m : Int)) (by omega)
  exact ⟨((v.tmod m + m) % m).toNat, by omega, by omega⟩
theorem good_ins {l : List Bl} {x : Bl} {k : Nat} (h : GoodP (l.map bp)) (hd : x.d = shb x.b) (hs : x.b.length ≤ 262144) (h1 : ∀ y ∈ l.take k, dls y.d x.d = true) (h2 : ∀ y, l[k]? = some y → dls y.d x.d = false) (hn : ∀ y ∈ l, y.d ≠ x.d) : GoodP ((l.take k ++ x :: l.drop k).map bp) := by
  have := GoodP.ins (x := bp x) (k := k) h hd hs (fun y hy => by
    rw [← List.map_take] at hy
    obtain ⟨z, hz, rfl⟩ := List.mem_map.1 hy; exact h1 z hz) (fun y hy => by
    rw [List.getElem?_map] at hy
    cases hz : l[k]? with
    | none => rw [hz] at hy; cases hy
    | some z => rw [hz] at hy; injection hy with hy; rw [← hy]; exact h2 z hz) (fun y hy => by
    obtain ⟨z, hz, rfl⟩ := List.mem_map.1 hy; exact hn z hz)
  rw [List.map_append, List.map_cons, List.map_take, List.map_drop]; exact this
end Go.Proofs.YtdjknefbaclleaaGreatDoor
