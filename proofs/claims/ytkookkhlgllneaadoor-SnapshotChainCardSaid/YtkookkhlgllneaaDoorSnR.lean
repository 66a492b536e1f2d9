/-
  The walks of the reference's Invert and of the statements' awake (conditions: digests of 32 bytes, at most 100000 elements).
-/
import Derived.Test.YtkookkhlgllneaaDoorSnQ
namespace Go.Proofs.YtkookkhlgllneaaDoor
open Go.RowKit

/-- the file that the sanity check creates -/
def sA : ByteArray := ⟨#[97]⟩
def e1 : List Int := 1 :: List.replicate 31 0
def cA : Cg := ⟨sA, zed, e1⟩
def nA : En := ⟨sA, e1⟩
theorem e1_ok : D32 e1 := ⟨rfl, fun x hx => by
  rcases List.mem_cons.1 hx with rfl | h
  · omega
  · rw [List.eq_of_mem_replicate h]; omega⟩
theorem cA_ok : OkC cA := ⟨D32.zed, e1_ok⟩
theorem nA_ok : OkE nA := e1_ok
theorem sA_path : pathB sA = true := by decide +kernel
theorem e1_ne : e1 ≠ zed := by decide +kernel
theorem vldE_nA : vldE [nA] = true := by
  have h : badE nA = false := by unfold badE; rw [decide_eq_false (show ¬ nA.d = zed from e1_ne), show pathB nA.p = true from sA_path]; rfl
  unfold vldE; simp [h, ascB, upto]
theorem sApply_A : sApply [] [cA] = .ok [nA] := by
  have h1 : vldE [] = true := rfl
  have h : badC cA = false := by unfold badC; rw [decide_eq_false (show ¬ cA.o = cA.n from fun e => e1_ne e.symm), show pathB cA.p = true from sA_path]; rfl
  have h2 : vldC [cA] = true := by unfold vldC; simp [h, ascB, upto]
  have h3 : fol (cre []) [cA] = some [cA] := by
    unfold fol
    rw [show cre [] = [] from rfl, sbs_nil]
    have ho : outP (kp cA.p cA.o, cA) = some cA := by unfold outP; exact if_neg (fun e => e1_ne e.symm)
    rw [List.map_cons, List.map_nil, List.filterMap_cons, ho, List.filterMap_nil, if_pos (by simp [okP, kp])]
  unfold sApply
  rw [h1, h2, h3]
  show finA (some [cA]) = _
  have hn : needB cA = false := by unfold needB; simp [cA]
  rw [finA_some]
  simp [hn]; rfl
theorem wpList_build_eq_g {P : Program} {w : World} {ops : Array Oper} {rest : List Oper} {o : Oper} {a : Act} {Q : Exit → Act → World → Prop} (hw : Region.wanted o (yielded ops a.tmps) = true) (t : TypeId) (parts : List (Nat × Operand)) (ho : o.op = .build t parts.toArray)
    (vs : List (Nat × Value)) (hv : (parts.map fun (i, x) => (i, a.eval x)) = vs) (v : Value) (hrun : (Instr.build t vs.toArray).run P w = .ok v w) (h : wpList P ops Q rest (a.put o.dst v) w) : wpList P ops Q (o :: rest) a w :=
  wpList_step fun _ hK => by
    rw [if_pos hw]
    unfold Oper.wp execOp
    simp only [ho, Sem.run_bind, List.map_toArray, hv, hrun, Result.andThen_ok]
    exact hK _ _ h
set_option maxRecDepth 100000 in
set_option maxHeartbeats 1000000 in
theorem awake4_any (w : World) : Calls Tryd.prog 16 #[] w fun e w' => e = .returned (.bool true) ∧ Below w.heap.size w w' := by
  have HCN := Lib.hid (CgB.new w cA)
  have HB0 := Lib.hid ((Below.refl w.heap.size w).alloc (Nat.le_refl _) (.cells (cgL cA).toArray 81))
  have he := eqIn_E nA nA nA_ok nA_ok
  rw [decide_eq_true rfl] at he
  have he2 : ∀ w, (Op.equalIn 10000 70 (.agg (enL nA).toArray) (.agg (enL ⟨sA, e1⟩).toArray)).run Tryd.prog w = .ok true w := he
  clear he
  have HIE := Lib.hid (info_e nA_ok)
  go_enter Tryd.func16, Tryd.ntmps16
  go_wp2_with (first
    | (refine wpList_build_eq rfl 81 [(0, .const (.string ⟨#[97]⟩)), (2, .tmp 4)] rfl [(0, .string sA), (2, .agg (e1.map (Value.int .u8)).toArray)] rfl _ (buildC2 sA e1 rfl _) ?_)
    | (refine wpList_slice_eq rfl 40 1 [(0, .tmp 5)] rfl [(0, .agg (cgL cA).toArray)] rfl _ _ (sliceC _ cA cA_ok) ?_; generalize hw0 : World.alloc w _ = w0; have hc0 : CgB w0 w.heap.size cA := (by rw [← hw0]; exact HCN.out); have hb0 : Below w.heap.size w w0 := (by rw [← hw0]; exact HB0.out); have HC0 := Lib.hid hc0; have HBL := Lib.hid hb0; clear hw0 hc0 hb0))
  have hlt : w.heap.size < w0.heap.size := (Array.getElem?_eq_some_iff.1 HC0.out).1
  have hcg : CgsIn w0 w0.heap.size (some ⟨w.heap.size, 0, none⟩) 1 1 [cA] := ⟨rfl, fun x hx => by rw [List.mem_singleton.1 hx]; exact cA_ok, fun _ => ⟨w.heap.size, 0, rfl, hlt, Nat.le_refl _, fun i x hi => by
    have hi0 : i = 0 := by have := (List.getElem?_eq_some_iff.1 hi).1; simp at this; omega
    subst hi0
    have : cA = x := by simpa using hi
    subst this
    exact HC0.out.all⟩⟩
  have hen : EnsIn w0 w0.heap.size none 0 0 [] := ⟨rfl, by simp, fun h => by omega⟩
  have hap := Apply_any none 0 0 [] (some ⟨w.heap.size, 0, none⟩) 1 1 [cA] w0 hen hcg (by omega) (by omega)
  rw [sApply_A] at hap
  have HAP := Lib.hid hap
  clear hap hcg hen
  refine HAP.out.mono ?_
  rintro e w1 ⟨sp1, cap1, rfl, ho1, hb1⟩
  have hens := ho1.ens rfl
  obtain ⟨g1, o1, rfl, hg1, hc1, hr1⟩ := hens.cells (Nat.lt_succ_self 0)
  have hrow := hr1 0 nA rfl
  rw [show o1 + 0 * 33 = o1 by omega] at hrow
  have HROW := Lib.hid hrow; have HENS := Lib.hid hens
  have HB1 := Lib.hid (HBL.out.trans (hb1.mono HBL.out.size))
  clear ho1 hb1 hens hr1 hrow
  go_wp2_with (first
    | (refine wpList_load_mid_g (by rfl) 70 _ rfl g1 o1 rfl _ _ HROW.out Tryd.underlying70 rfl HIE.out ?_)
    | (refine wpList_build_eq_g (by rfl) 70 [(0, .const (.string ⟨#[97]⟩)), (1, .tmp 21)] rfl [(0, .string sA), (1, .agg (e1.map (Value.int .u8)).toArray)] rfl _ (buildE sA e1 rfl _) ?_))
  have hv := Valid_any (some ⟨g1, o1, none⟩) 1 cap1 [nA] w1 HENS.out (by omega)
  rw [vldE_nA] at hv
  have HV := Lib.hid hv; clear hv
  refine HV.out.mono ?_
  rintro e w2 ⟨rfl, hb2⟩
  have HB2 := Lib.hid (HB1.out.trans (hb2.mono HB1.out.size)); clear hb2
  go_wp2_with fail
  go_ret
  exact ⟨rfl, HB2.out⟩
end Go.Proofs.YtkookkhlgllneaaDoor
