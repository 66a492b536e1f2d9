/-
  The walks of the reference's Invert and of the statements' awake (conditions: digests of 32 bytes, at most 100000 elements).
-/
import Derived.Test.YtjeiiojchlfpoaaDoorSnQ
namespace Go.Proofs.YtjeiiojchlfpoaaDoor
open Go.RowKit

set_option maxRecDepth 100000 in
set_option maxHeartbeats 1000000 in
theorem refInvert_any (sp : Option Addr) (n cap : Nat) (l : List Cg) (w : World) (hl : CgsIn w w.heap.size sp n cap l) (hn : n ≤ 100000) :
    Calls Tryd.prog 41 #[.slice sp n cap] w (ResC w (sInvert l)) := by
  have HL := Lib.hid hl; clear hl
  obtain ⟨c, hc⟩ : ∃ c, vldC l = c := ⟨_, rfl⟩
  have hv := fun w' (h : CgsIn w' w'.heap.size sp n cap l) => refValidChanges_any sp n cap l w' h (by omega)
  rw [hc] at hv
  have HV := Lib.hid hv; have HC := Lib.hid hc; clear hv hc
  cases c
  · go_enter Tryd.func41, Tryd.ntmps41
    go_wp2_with fail
    refine (HV.out _ HL.out).mono ?_
    rintro e w1 ⟨rfl, hb1⟩
    have HB1 := Lib.hid hb1; clear hb1
    go_wp2_with fail
    go_ret2
    exact resC_error (by unfold sInvert; rw [HC.out]; rfl) rfl HB1.out
  have HS : Hid (sInvert l = .ok (inv l)) := by show _ = _; unfold sInvert; rw [HC.out]; rfl
  go_enter Tryd.func41, Tryd.ntmps41
  go_wp2_with fail
  refine (HV.out _ HL.out).mono ?_
  rintro e w1 ⟨rfl, hb1⟩
  have HB1 := Lib.hid hb1; clear hb1
  go_wp2_with fail
  go_loopw [4, 5] (fun v i wr => ∃ (k : Nat) (sp' : Option Addr) (cap' : Nat), k ≤ n ∧ i = .int .i64 k ∧ v = .slice sp' k cap' ∧ Hid (OwnC wr w.heap.size (.slice sp' k cap') (inv (l.take k))) ∧ Hid (Below w.heap.size w wr)) (fun _ i _ => n - (intOf i).toNat)
  case atStart => exact ⟨0, _, _, Nat.zero_le _, rfl, rfl, OwnC.nil _ _, HB1.out⟩
  case round =>
  obtain ⟨k, sp', cap', hk, rfl, rfl, hown, hbe⟩ := hrel
  have hbs := hbe.out.size
  by_cases hlt : k < n
  · have hd : decide ((k : Int) < (n : Int)) = true := by simp; omega
    obtain ⟨x, hx⟩ : ∃ x, l[k]? = some x := ⟨l[k]'(by have := HL.out.len; omega), List.getElem?_eq_getElem _⟩
    obtain ⟨b, off, rfl, hbB, hcap, -⟩ := HL.out.cells (by omega)
    have HOX := Lib.hid (HL.out.ok x (List.mem_of_getElem? hx))
    have HRX := Lib.hid (fun W (hb : Below w.heap.size w W) => range_belowS (HL.out.at hx).2 hb hbB)
    have HIO := Lib.hid (info_d HOX.out.1); have HIN := Lib.hid (info_d HOX.out.2)
    have HYOK : Hid (OkC (⟨x.p, x.n, x.o⟩ : Cg)) := ⟨HOX.out.2, HOX.out.1⟩
    have HT : Hid (inv (l.take (k + 1)) = inv (l.take k) ++ [⟨x.p, x.n, x.o⟩]) := by show _ = _; rw [List.take_add_one, hx]; simp [inv]
    have HKL : Hid (k = (inv (l.take k)).length) := by show _ = _; have := HL.out.len; simp [inv]; omega
    have p1 : (0 : Int) ≤ (k : Int) := by omega
    have p2 : (k : Int) < (n : Int) := by omega
    have q1 : IntKind.i64.wrap (k : Int) = (k : Int) := IntWalk.i64_in _ (by omega)
    clear hx
    go_wp2_with fail
    refine wp_region_held_drew (S := fun w' => w'.rangeAt b (off + k * 65) (cgL x)) (by kernel_rfl) (HRX.out _ hbe.out.drew) (fun hHeld => ?_)
    refine wpAnyH_take (i := 0) (oi := _) (v := ?v0n1) rfl (by kernel_rfl) (by kernel_rfl) (by kernel_rfl) (fun _ _ _ h => h) (Or.inl ⟨by rfl, ?hy0n1⟩) (by assumption) ?rest0n1
    case hy0n1 =>
      intro w' hSw
      go_simp
      try with_reducible rfl
    try simp only [Act.put, List.getElem_toArray, List.getElem_cons_succ, List.getElem_cons_zero, List.setIfInBounds_toArray, List.set_cons_zero, List.set_cons_succ]
    refine wpAnyH_take (i := 1) (oi := _) (v := ?v1n2) rfl (by kernel_rfl) (by kernel_rfl) (by kernel_rfl) (fun _ _ _ h => h) (Or.inl ⟨by rfl, ?hy1n2⟩) (by assumption) ?rest1n2
    case hy1n2 =>
      intro w' hSw
      go_simp
      try with_reducible rfl
    try simp only [Act.put, List.getElem_toArray, List.getElem_cons_succ, List.getElem_cons_zero, List.setIfInBounds_toArray, List.set_cons_zero, List.set_cons_succ]
    refine wpAnyH_take (i := 2) (oi := _) (v := ?v2n3) rfl (by kernel_rfl) (by kernel_rfl) (by kernel_rfl) (fun _ _ _ h => h) (Or.inl ⟨by rfl, ?hy2n3⟩) (by assumption) ?rest2n3
    case hy2n3 =>
      intro w' hSw
      go_simp
      try with_reducible rfl
    try simp only [Act.put, List.getElem_toArray, List.getElem_cons_succ, List.getElem_cons_zero, List.setIfInBounds_toArray, List.set_cons_zero, List.set_cons_succ]
    refine wpAnyH_take (i := 3) (oi := _) (v := ?v3n4) rfl (by kernel_rfl) (by kernel_rfl) (by kernel_rfl) (fun _ _ _ h => h) (Or.inl ⟨by rfl, ?hy3n4⟩) (by assumption) ?rest3n4
    case hy3n4 =>
      intro w' hSw
      go_simp
      try with_reducible rfl
    try simp only [Act.put, List.getElem_toArray, List.getElem_cons_succ, List.getElem_cons_zero, List.setIfInBounds_toArray, List.set_cons_zero, List.set_cons_succ]
    refine wpAnyH_take (i := 4) (oi := _) (v := ?v4n5) rfl (by kernel_rfl) (by kernel_rfl) (by kernel_rfl) (fun _ _ _ h => h) (Or.inl ⟨by rfl, ?hy4n5⟩) (by assumption) ?rest4n5
    case hy4n5 =>
      intro w' hSw
      go_simp
      try with_reducible rfl
    try simp only [Act.put, List.getElem_toArray, List.getElem_cons_succ, List.getElem_cons_zero, List.setIfInBounds_toArray, List.set_cons_zero, List.set_cons_succ]
    refine wpAnyH_take (i := 5) (oi := _) (v := ?v5n6) rfl (by kernel_rfl) (by kernel_rfl) (by kernel_rfl) (fun _ _ _ h => h) (Or.inl ⟨by rfl, ?hy5n6⟩) (by assumption) ?rest5n6
    case hy5n6 =>
      intro w' hSw
      have h1 := rng_p hSw
      go_simp
      try with_reducible rfl
    try simp only [Act.put, List.getElem_toArray, List.getElem_cons_succ, List.getElem_cons_zero, List.setIfInBounds_toArray, List.set_cons_zero, List.set_cons_succ]
    refine wpAnyH_take (i := 6) (oi := _) (v := ?v6n7) rfl (by kernel_rfl) (by kernel_rfl) (by kernel_rfl) (fun _ _ _ h => h) (Or.inl ⟨by rfl, ?hy6n7⟩) (by assumption) ?rest6n7
    case hy6n7 =>
      intro w' hSw
      go_simp
      try with_reducible rfl
    try simp only [Act.put, List.getElem_toArray, List.getElem_cons_succ, List.getElem_cons_zero, List.setIfInBounds_toArray, List.set_cons_zero, List.set_cons_succ]
    refine wpAnyH_take (i := 7) (oi := _) (v := ?v7n8) rfl (by kernel_rfl) (by kernel_rfl) (by kernel_rfl) (fun _ _ _ h => h) (Or.inl ⟨by rfl, ?hy7n8⟩) (by assumption) ?rest7n8
    case hy7n8 =>
      intro w' hSw
      go_simp
      try with_reducible rfl
    try simp only [Act.put, List.getElem_toArray, List.getElem_cons_succ, List.getElem_cons_zero, List.setIfInBounds_toArray, List.set_cons_zero, List.set_cons_succ]
    refine wpAnyH_take (i := 8) (oi := _) (v := ?v8n9) rfl (by kernel_rfl) (by kernel_rfl) (by kernel_rfl) (fun _ _ _ h => h) (Or.inl ⟨by rfl, ?hy8n9⟩) (by assumption) ?rest8n9
    case hy8n9 =>
      intro w' hSw
      go_simp
      try with_reducible rfl
    try simp only [Act.put, List.getElem_toArray, List.getElem_cons_succ, List.getElem_cons_zero, List.setIfInBounds_toArray, List.set_cons_zero, List.set_cons_succ]
    refine wpAnyH_take (i := 9) (oi := _) (v := ?v9n10) rfl (by kernel_rfl) (by kernel_rfl) (by kernel_rfl) (fun _ _ _ h => h) (Or.inl ⟨by rfl, ?hy9n10⟩) (by assumption) ?rest9n10
    case hy9n10 =>
      intro w' hSw
      go_simp
      try with_reducible rfl
    try simp only [Act.put, List.getElem_toArray, List.getElem_cons_succ, List.getElem_cons_zero, List.setIfInBounds_toArray, List.set_cons_zero, List.set_cons_succ]
    refine' wpAnyH_take (i := 10) (oi := _) (v := _) rfl (by kernel_rfl) (by kernel_rfl) (by kernel_rfl) (fun _ _ _ h => h) (yieldsIf_load_mid (by rfl) _ _ rfl _ _ rfl _ _ ?hS10n11 Tryd.underlying35 rfl HIN.out) (by assumption) ?rest10n11
    case hS10n11 =>
      intro w' hSw
      exact (rng_n hSw HOX.out)
    try simp only [Act.put, List.getElem_toArray, List.getElem_cons_succ, List.getElem_cons_zero, List.setIfInBounds_toArray, List.set_cons_zero, List.set_cons_succ]
    refine wpAnyH_take (i := 11) (oi := _) (v := ?v11n12) rfl (by kernel_rfl) (by kernel_rfl) (by kernel_rfl) (fun _ _ _ h => h) (Or.inl ⟨by rfl, ?hy11n12⟩) (by assumption) ?rest11n12
    case hy11n12 =>
      intro w' hSw
      go_simp
      try with_reducible rfl
    try simp only [Act.put, List.getElem_toArray, List.getElem_cons_succ, List.getElem_cons_zero, List.setIfInBounds_toArray, List.set_cons_zero, List.set_cons_succ]
    refine wpAnyH_take (i := 12) (oi := _) (v := ?v12n13) rfl (by kernel_rfl) (by kernel_rfl) (by kernel_rfl) (fun _ _ _ h => h) (Or.inl ⟨by rfl, ?hy12n13⟩) (by assumption) ?rest12n13
    case hy12n13 =>
      intro w' hSw
      go_simp
      try with_reducible rfl
    try simp only [Act.put, List.getElem_toArray, List.getElem_cons_succ, List.getElem_cons_zero, List.setIfInBounds_toArray, List.set_cons_zero, List.set_cons_succ]
    refine wpAnyH_take (i := 13) (oi := _) (v := ?v13n14) rfl (by kernel_rfl) (by kernel_rfl) (by kernel_rfl) (fun _ _ _ h => h) (Or.inl ⟨by rfl, ?hy13n14⟩) (by assumption) ?rest13n14
    case hy13n14 =>
      intro w' hSw
      go_simp
      try with_reducible rfl
    try simp only [Act.put, List.getElem_toArray, List.getElem_cons_succ, List.getElem_cons_zero, List.setIfInBounds_toArray, List.set_cons_zero, List.set_cons_succ]
    refine wpAnyH_take (i := 14) (oi := _) (v := ?v14n15) rfl (by kernel_rfl) (by kernel_rfl) (by kernel_rfl) (fun _ _ _ h => h) (Or.inl ⟨by rfl, ?hy14n15⟩) (by assumption) ?rest14n15
    case hy14n15 =>
      intro w' hSw
      go_simp
      try with_reducible rfl
    try simp only [Act.put, List.getElem_toArray, List.getElem_cons_succ, List.getElem_cons_zero, List.setIfInBounds_toArray, List.set_cons_zero, List.set_cons_succ]
    refine' wpAnyH_take (i := 15) (oi := _) (v := _) rfl (by kernel_rfl) (by kernel_rfl) (by kernel_rfl) (fun _ _ _ h => h) (yieldsIf_load_mid (by rfl) _ _ rfl _ _ rfl _ _ ?hS15n16 Tryd.underlying35 rfl HIO.out) (by assumption) ?rest15n16
    case hS15n16 =>
      intro w' hSw
      exact (rng_o hSw)
    try simp only [Act.put, List.getElem_toArray, List.getElem_cons_succ, List.getElem_cons_zero, List.setIfInBounds_toArray, List.set_cons_zero, List.set_cons_succ]
    refine wpAnyH_take (i := 16) (oi := _) (v := _) rfl (by kernel_rfl) (by kernel_rfl) (by kernel_rfl) (fun _ _ _ h => h) (yieldsIf_buildS (by rfl) 116 [(0, .tmp 20), (1, .tmp 25), (2, .tmp 30)] rfl [(0, .string x.p), (1, .agg (x.n.map (Value.int .u8)).toArray), (2, .agg (x.o.map (Value.int .u8)).toArray)] rfl _ (fun w' _ => buildC x.p x.n x.o HOX.out.2.1 HOX.out.1.1 w')) (by assumption) ?rest16n17
    try simp only [Act.put, List.getElem_toArray, List.getElem_cons_succ, List.getElem_cons_zero, List.setIfInBounds_toArray, List.set_cons_zero, List.set_cons_succ]
    refine wpAnyH_ready (rs := [17]) (by kernel_rfl) (by simp) (AllReadyH.cons (o := _) rfl (fun K hK => ?_) AllReadyH.nil)
    rw [if_pos (by rfl)]
    refine wp_slice_eqS 46 1 [(0, .tmp 31)] rfl [(0, .agg (cgL ⟨x.p, x.n, x.o⟩).toArray)] rfl _ _ (sliceC _ ⟨x.p, x.n, x.o⟩ HYOK.out) ?_
    generalize hw3 : World.alloc wr.drew _ = w3
    have hz3 : CgB w3 wr.heap.size ⟨x.p, x.n, x.o⟩ := by rw [← hw3]; exact heap_alloc_new wr.drew _
    have hb3 : Below wr.heap.size wr w3 := by rw [← hw3]; exact ((Below.refl _ wr).drew).alloc (Nat.le_refl _) _
    have HZ3 := Lib.hid hz3
    have HB3 := Lib.hid (hbe.out.trans (hb3.mono hbs))
    have HO3 := Lib.hid (hown.out.below hb3)
    have hs3 := hb3.size
    clear hw3 hz3 hb3
    refine hK.out _ _ (HRX.out _ HB3.out) (fun hHeld => ?_)
    clear hK K
    try simp only [Act.put, List.getElem_toArray, List.getElem_cons_succ, List.getElem_cons_zero, List.setIfInBounds_toArray, List.set_cons_zero, List.set_cons_succ]
    refine wpAnyH_ready (rs := [18]) (by kernel_rfl) (by simp) (AllReadyH.cons (o := _) rfl (fun K hK => ?_) AllReadyH.nil)
    rw [if_pos (by rfl)]
    refine wp_append_cgS (.tmp 15) (.tmp 32) rfl w.heap.size _ _ k HKL.out rfl HO3.out wr.heap.size ⟨x.p, x.n, x.o⟩ rfl HZ3.out HYOK.out (by omega) (by omega) ?_
    intro sp4 cap4 w4 HO4 HB4 HG4
    have HB5 := Lib.hid (HB3.out.trans HB4.out)
    refine hK.out _ _ (HRX.out _ HB5.out) (fun hHeld => ?_)
    clear hK K
    try simp only [Act.put, List.getElem_toArray, List.getElem_cons_succ, List.getElem_cons_zero, List.setIfInBounds_toArray, List.set_cons_zero, List.set_cons_succ]
    refine wpAnyH_take (i := 19) (oi := _) (v := ?v19n18) rfl (by kernel_rfl) (by kernel_rfl) (by kernel_rfl) (fun _ _ _ h => h) (Or.inl ⟨by rfl, ?hy19n18⟩) (by assumption) ?rest19n18
    case hy19n18 =>
      intro w' hSw
      go_simp
      try with_reducible rfl
    try simp only [Act.put, List.getElem_toArray, List.getElem_cons_succ, List.getElem_cons_zero, List.setIfInBounds_toArray, List.set_cons_zero, List.set_cons_succ]
    refine wpAnyH_done (by kernel_rfl) ?_ _
    clear hHeld
    go_wp2_with fail
    go_roundw
    case rel => exact ⟨k + 1, sp4, cap4, by omega, by go_num, rfl, by show OwnC _ _ _ _; rw [HT.out]; exact HO4.out, HB5⟩
    case measure => simp [intOf]; omega
  · obtain rfl : k = n := by omega
    have hd : decide ((k : Int) < (k : Int)) = false := by simp
    have HT : Hid (inv (l.take k) = inv l) := by show _ = _; rw [List.take_of_length_le (by rw [HL.out.len]; exact Nat.le_refl _)]
    have HLN : Hid (k = (inv l).length) := by show _ = _; rw [← HL.out.len]; simp [inv]
    go_wp2_with fail
    go_ret2
    exact resC_ok HS.out HLN.out rfl (by rw [← HT.out]; exact hown.out) hbe.out

/-- the file that the sanity check creates -/
def sA : ByteArray := ⟨#[97]⟩
def e1 : List Int := 1 :: List.replicate 31 0
def cA : Cg := ⟨sA, zed, e1⟩
def nA : En := ⟨sA, e1⟩
theorem e1_ok : D32 e1 := ⟨rfl, fun x hx => by
  rcases List.mem_cons.1 hx with rfl | h
  · omega
  · rw [List.eq_of_mem_replicate h]; omega⟩
theorem cA_ok : OkC cA := ⟨D32.zed, e1_ok⟩
theorem nA_ok : OkE nA := e1_ok
theorem sA_path : pathB sA = true := by decide +kernel
theorem e1_ne : e1 ≠ zed := by decide +kernel
theorem vldE_nA : vldE [nA] = true := by
  have h : badE nA = false := by unfold badE; rw [decide_eq_false (show ¬ nA.d = zed from e1_ne), show pathB nA.p = true from sA_path]; rfl
  unfold vldE; simp [h, ascB, upto]
theorem sApply_A : sApply [] [cA] = .ok [nA] := by
  have h1 : vldE [] = true := rfl
  have h : badC cA = false := by unfold badC; rw [decide_eq_false (show ¬ cA.o = cA.n from fun e => e1_ne e.symm), show pathB cA.p = true from sA_path]; rfl
  have h2 : vldC [cA] = true := by unfold vldC; simp [h, ascB, upto]
  have h3 : fol (cre []) [cA] = some [cA] := by
    unfold fol
    rw [show cre [] = [] from rfl, sbs_nil]
    have ho : outP (kp cA.p cA.o, cA) = some cA := by unfold outP; exact if_neg (fun e => e1_ne e.symm)
    rw [List.map_cons, List.map_nil, List.filterMap_cons, ho, List.filterMap_nil, if_pos (by simp [okP, kp])]
  unfold sApply
  rw [h1, h2, h3]
  show finA (some [cA]) = _
  have hn : needB cA = false := by unfold needB; simp [cA]
  rw [finA_some]
  simp [hn]; rfl
theorem wpList_build_eq_g {P : Program} {w : World} {ops : Array Oper} {rest : List Oper} {o : Oper} {a : Act} {Q : Exit → Act → World → Prop} (hw : Region.wanted o (yielded ops a.tmps) = true) (t : TypeId) (parts : List (Nat × Operand)) (ho : o.op = .build t parts.toArray)
    (vs : List (Nat × Value)) (hv : (parts.map fun (i, x) => (i, a.eval x)) = vs) (v : Value) (hrun : (Instr.build t vs.toArray).run P w = .ok v w) (h : wpList P ops Q rest (a.put o.dst v) w) : wpList P ops Q (o :: rest) a w :=
  wpList_step fun _ hK => by
    rw [if_pos hw]
    unfold Oper.wp execOp
    simp only [ho, Sem.run_bind, List.map_toArray, hv, hrun, Result.andThen_ok]
    exact hK _ _ h
set_option maxRecDepth 100000 in
set_option maxHeartbeats 1000000 in
theorem awake4_any (w : World) : Calls Tryd.prog 26 #[] w fun e w' => e = .returned (.bool true) ∧ Below w.heap.size w w' := by
  have HCN := Lib.hid (CgB.new w cA)
  have HB0 := Lib.hid ((Below.refl w.heap.size w).alloc (Nat.le_refl _) (.cells (cgL cA).toArray 116))
  have he := eqIn_E nA nA nA_ok nA_ok
  rw [decide_eq_true rfl] at he
  have he2 : ∀ w, (Op.equalIn 10000 105 (.agg (enL nA).toArray) (.agg (enL ⟨sA, e1⟩).toArray)).run Tryd.prog w = .ok true w := he
  clear he
  have HIE := Lib.hid (info_e nA_ok)
  go_enter Tryd.func26, Tryd.ntmps26
  go_wp2_with (first
    | (refine wpList_build_eq rfl 116 [(0, .const (.string ⟨#[97]⟩)), (2, .tmp 4)] rfl [(0, .string sA), (2, .agg (e1.map (Value.int .u8)).toArray)] rfl _ (buildC2 sA e1 rfl _) ?_)
    | (refine wpList_slice_eq rfl 46 1 [(0, .tmp 5)] rfl [(0, .agg (cgL cA).toArray)] rfl _ _ (sliceC _ cA cA_ok) ?_; generalize hw0 : World.alloc w _ = w0; have hc0 : CgB w0 w.heap.size cA := (by rw [← hw0]; exact HCN.out); have hb0 : Below w.heap.size w w0 := (by rw [← hw0]; exact HB0.out); have HC0 := Lib.hid hc0; have HBL := Lib.hid hb0; clear hw0 hc0 hb0))
  have hlt : w.heap.size < w0.heap.size := (Array.getElem?_eq_some_iff.1 HC0.out).1
  have hcg : CgsIn w0 w0.heap.size (some ⟨w.heap.size, 0, none⟩) 1 1 [cA] := ⟨rfl, fun x hx => by rw [List.mem_singleton.1 hx]; exact cA_ok, fun _ => ⟨w.heap.size, 0, rfl, hlt, Nat.le_refl _, fun i x hi => by
    have hi0 : i = 0 := by have := (List.getElem?_eq_some_iff.1 hi).1; simp at this; omega
    subst hi0
    have : cA = x := by simpa using hi
    subst this
    exact HC0.out.all⟩⟩
  have hen : EnsIn w0 w0.heap.size none 0 0 [] := ⟨rfl, by simp, fun h => by omega⟩
  have hap := Apply_any none 0 0 [] (some ⟨w.heap.size, 0, none⟩) 1 1 [cA] w0 hen hcg (by omega) (by omega)
  rw [sApply_A] at hap
  have HAP := Lib.hid hap
  clear hap hcg hen
  refine HAP.out.mono ?_
  rintro e w1 ⟨sp1, cap1, rfl, ho1, hb1⟩
  have hens := ho1.ens rfl
  obtain ⟨g1, o1, rfl, hg1, hc1, hr1⟩ := hens.cells (Nat.lt_succ_self 0)
  have hrow := hr1 0 nA rfl
  rw [show o1 + 0 * 33 = o1 by omega] at hrow
  have HROW := Lib.hid hrow; have HENS := Lib.hid hens
  have HB1 := Lib.hid (HBL.out.trans (hb1.mono HBL.out.size))
  clear ho1 hb1 hens hr1 hrow
  go_wp2_with (first
    | (refine wpList_load_mid_g (by rfl) 105 _ rfl g1 o1 rfl _ _ HROW.out Tryd.underlying105 rfl HIE.out ?_)
    | (refine wpList_build_eq_g (by rfl) 105 [(0, .const (.string ⟨#[97]⟩)), (1, .tmp 21)] rfl [(0, .string sA), (1, .agg (e1.map (Value.int .u8)).toArray)] rfl _ (buildE sA e1 rfl _) ?_))
  have hv := Valid_any (some ⟨g1, o1, none⟩) 1 cap1 [nA] w1 HENS.out (by omega)
  rw [vldE_nA] at hv
  have HV := Lib.hid hv; clear hv
  refine HV.out.mono ?_
  rintro e w2 ⟨rfl, hb2⟩
  have HB2 := Lib.hid (HB1.out.trans (hb2.mono HB1.out.size)); clear hb2
  go_wp2_with fail
  go_ret
  exact ⟨rfl, HB2.out⟩
end Go.Proofs.YtjeiiojchlfpoaaDoor
