/-
  Slices of entries and of changes; the walks of incorrect, unfit and kept, of slices.IndexFunc and slices.ContainsFunc at entries and at changes (conditions: digests have 32 bytes; what the function value answers is known at each element).
-/
import Derived.Test.YtecllfbadciaoaaGreatDoorZip
import Derived.Test.YtecllfbadciaoaaGreatDoorQ4
import Derived.Deep.RegionWith
import Derived.Laws.Cover1
import Derived.Laws.AppendOwn
set_option maxRecDepth 100000
set_option maxHeartbeats 8000000
namespace Go.Proofs.YtecllfbadciaoaaGreatDoor
open Go.RowKit
def badE (x : En) : Bool := decide (x.d = zed) || !pathB x.p
theorem incorrect_any (x : En) (w : World) (hx : OkE x) :
 Calls Tryz.prog 82 #[.agg (enL x).toArray] w fun e w' => e = .returned (.bool (badE x)) ∧ Below w.heap.size w w' := by
 have HN := zh (EnB.new w x)
 have HB := zh ((Below.refl w.heap.size w).alloc (Nat.le_refl _) (.cells (enL x).toArray 82))
 have HO := zh (info_d hx)
 have he := eqlZ x.d hx.1
 clear hx
 by_cases hz : x.d = zed
 ·have HZ : Hid (badE x = true) := by show _ = _; unfold badE; rw [decide_eq_true hz]; rfl
  rw [decide_eq_true hz] at he
  clear hz
  go_enter Tryz.func82, Tryz.ntmps82
  go_wp2_with (generalize hw0 : World.alloc w _ = w0; have hr : EnB w0 w.heap.size x := (by rw [← hw0]; exact HN.out); have hbb : Below w.heap.size w w0 := (by rw [← hw0]; exact HB.out); have HR := zh hr; have HBB := zh hbb; clear hw0 hr hbb; refine wpList_load_mid rfl 80 _ rfl w.heap.size 1 rfl _ _ HR.out.d Tryz.underlying80 rfl HO.out ?_)
  go_ret
  exact ⟨ret_boolP HZ.out.symm, HBB.out⟩
 ·have HZ : Hid (badE x = !pathB x.p) := by show _ = _; unfold badE; rw [decide_eq_false hz]; rfl
  rw [decide_eq_false hz] at he
  clear hz
  go_enter Tryz.func82, Tryz.ntmps82
  go_wp2_with (generalize hw0 : World.alloc w _ = w0; have hr : EnB w0 w.heap.size x := (by rw [← hw0]; exact HN.out); have hbb : Below w.heap.size w w0 := (by rw [← hw0]; exact HB.out); have hp := hr.p; have HR := zh hr; have HBB := zh hbb; clear hw0 hr hbb; refine wpList_load_mid rfl 80 _ rfl w.heap.size 1 rfl _ _ HR.out.d Tryz.underlying80 rfl HO.out ?_)
  refine (Path_any x.p _).mono ?_
  rintro e w1 ⟨rfl, hb1⟩
  have HB1 := zh hb1; clear hb1
  go_wp2
  go_ret
  exact ⟨ret_boolP HZ.out.symm, HBB.out.trans (HB1.out.mono HBB.out.size)⟩
structure EnsIn (w : World) (B : Nat) (sp : Option Addr) (n cap : Nat) (l : List En) : Prop where
 len : l.length = n
 ok : ∀ x ∈ l, OkE x
 cells : 0 < n → ∃ b off, sp = some ⟨b, off, none⟩ ∧ b < B ∧ n ≤ cap ∧ ∀ i x, l[i]? = some x → w.rangeAt b (off + i * 33) (enL x)
structure CgsIn (w : World) (B : Nat) (sp : Option Addr) (n cap : Nat) (l : List Cg) : Prop where
 len : l.length = n
 ok : ∀ x ∈ l, OkC x
 cells : 0 < n → ∃ b off, sp = some ⟨b, off, none⟩ ∧ b < B ∧ n ≤ cap ∧ ∀ i x, l[i]? = some x → w.rangeAt b (off + i * 65) (cgL x)
theorem range_belowS {w w' : World} {b o B : Nat} {cs : List Value} (h : w.rangeAt b o cs) (hb : Below B w w') (hlt : b < B) : w'.rangeAt b o cs := fun j v hv => (hb.cell (p := ⟨b, o + j, none⟩) hlt).trans (h j v hv)
theorem EnsIn.below {w w' : World} {B B' : Nat} {sp : Option Addr} {n cap : Nat} {l : List En} (h : EnsIn w B sp n cap l) (hb : Below B' w w') (hB : B ≤ B') : EnsIn w' B' sp n cap l :=
 ⟨h.len, h.ok, fun hn => by
  obtain ⟨b, off, e, hlt, hc, hr⟩ := h.cells hn
  exact ⟨b, off, e, by omega, hc, fun i x hi => range_belowS (hr i x hi) hb (by omega)⟩⟩
theorem CgsIn.below {w w' : World} {B B' : Nat} {sp : Option Addr} {n cap : Nat} {l : List Cg} (h : CgsIn w B sp n cap l) (hb : Below B' w w') (hB : B ≤ B') : CgsIn w' B' sp n cap l :=
 ⟨h.len, h.ok, fun hn => by
  obtain ⟨b, off, e, hlt, hc, hr⟩ := h.cells hn
  exact ⟨b, off, e, by omega, hc, fun i x hi => range_belowS (hr i x hi) hb (by omega)⟩⟩
def IdxResE (w : World) (a : Bool) (e : Ending) (w' : World) : Prop := ∃ r : Int, e = .returned (.int .i64 r) ∧ decide (r ≥ 0) = a ∧ Below w.heap.size w w'
theorem indexE_any (sp : Option Addr) (n cap : Nat) (l : List En) (w : World) (hl : EnsIn w w.heap.size sp n cap l) (hn : n ≤ 1000000) :
 Calls Tryz.prog 115 #[.slice sp n cap, .func (.func 82) #[] #[]] w (IdxResE w (l.any badE)) := by
 have HL := zh hl
 clear hl
 go_enter Tryz.func115, Tryz.ntmps115
 go_wp2_with fail
 go_loopw [8] (fun i wr => ∃ k : Nat, k ≤ n ∧ i = .int .i64 k ∧ Hid ((l.take k).any badE = false) ∧ Hid (Below w.heap.size w wr)) (fun i _ => n - (intOf i).toNat)
 case atStart => exact ⟨0, Nat.zero_le _, rfl, rfl, Below.refl _ _⟩
 case round =>
  obtain ⟨k, hk, rfl, HA, hbe⟩ := hrel
  by_cases hlt : k < n
  ·have hd : decide ((k : Int) < (n : Int)) = true := by simp; omega
   obtain ⟨b, off, rfl, hbB, hcap, hr⟩ := HL.out.cells (by omega)
   have hkl : k < l.length := by rw [HL.out.len]; exact hlt
   obtain ⟨x, hx⟩ : ∃ x, l[k]? = some x := ⟨l[k], List.getElem?_eq_getElem hkl⟩
   have hxm : x ∈ l := List.mem_of_getElem? hx
   have HR := zh (range_belowS (hr k x hx) hbe.out hbB)
   have HI := zh (info_e (HL.out.ok x hxm))
   have HT : Hid ((l.take (k + 1)).any badE = ((l.take k).any badE || badE x)) := by show _ = _; rw [List.take_add_one, List.any_append, hx]; simp
   have HM : Hid (badE x = true → l.any badE = true) := fun h => List.any_eq_true.2 ⟨x, hxm, h⟩
   have p1 : (0 : Int) ≤ (k : Int) := by omega
   have p2 : (k : Int) < (n : Int) := by omega
   have hF := fun w' => incorrect_any x w' (HL.out.ok x hxm)
   clear hr hx hxm hkl
   obtain ⟨c, hc⟩ : ∃ c, badE x = c := ⟨_, rfl⟩
   rw [hc] at hF
   have HC := zh hF; have HQ := zh hc
   clear hF hc
   cases c
   ·go_wp2_with (refine wpList_load_mid rfl 82 _ rfl b (off + k * 33) rfl _ _ HR.out Tryz.underlying82 rfl HI.out ?_)
    refine (HC.out _).mono ?_
    rintro e w1 ⟨rfl, hb1⟩
    have HB1 := zh (hbe.out.trans (hb1.mono hbe.out.size)); clear hb1
    go_wp2_with fail
    go_roundw
    case rel => exact ⟨k + 1, hlt, by go_num, by show _ = _; rw [HT.out, HA.out, HQ.out]; rfl, HB1.out⟩
    case measure => simp [intOf]; omega
   ·go_wp2_with (refine wpList_load_mid rfl 82 _ rfl b (off + k * 33) rfl _ _ HR.out Tryz.underlying82 rfl HI.out ?_)
    refine (HC.out _).mono ?_
    rintro e w1 ⟨rfl, hb1⟩
    have HB1 := zh (hbe.out.trans (hb1.mono hbe.out.size)); clear hb1
    go_wp2_with fail
    go_ret
    exact ⟨k, rfl, by rw [HM.out HQ.out]; simp, HB1.out⟩
  ·obtain rfl : k = n := by omega
   have hd : decide ((k : Int) < (k : Int)) = false := by simp
   have HZ : Hid (l.any badE = false) := by have := HA.out; rw [List.take_of_length_le (by rw [HL.out.len]; exact Nat.le_refl _)] at this; exact this
   go_wp2_with fail
   go_ret
   exact ⟨-1, rfl, by rw [HZ.out]; rfl, hbe.out⟩
theorem containsE_any (sp : Option Addr) (n cap : Nat) (l : List En) (w : World) (hl : EnsIn w w.heap.size sp n cap l) (hn : n ≤ 1000000) :
 Calls Tryz.prog 81 #[.slice sp n cap, .func (.func 82) #[] #[]] w fun e w' => e = .returned (.bool (l.any badE)) ∧ Below w.heap.size w w' := by
 have HL := zh hl
 clear hl
 go_enter Tryz.func81, Tryz.ntmps81
 go_wp2_with fail
 refine (indexE_any sp n cap l _ HL.out hn).mono ?_
 rintro e w1 ⟨r, rfl, hr, hb⟩
 have HR := zh hr; have HB := zh hb; clear hr hb
 go_wp2_with fail
 go_ret
 exact ⟨ret_boolP HR.out, HB.out⟩
theorem ascendE_any (sp : Option Addr) (n cap : Nat) (l : List En) (w : World) (hl : EnsIn w w.heap.size sp n cap l) (hn : n ≤ 1000000) :
 Calls Tryz.prog 83 #[.slice sp n cap, .func (.func 84) #[] #[]] w fun e w' => e = .returned (.bool (ascB En.p l)) ∧ Below w.heap.size w w' := by
 have HL := zh hl
 clear hl
 go_enter Tryz.func83, Tryz.ntmps83
 go_wp2_with fail
 go_loopw [5] (fun i wr => ∃ k : Nat, k ≤ n ∧ i = .int .i64 ((k : Int) + 1) ∧ Hid (upto En.p l k = true) ∧ Hid (Below w.heap.size w wr)) (fun i _ => n + 1 - (intOf i).toNat)
 case atStart => exact ⟨0, Nat.zero_le _, rfl, rfl, Below.refl _ _⟩
 case round =>
  obtain ⟨k, hk, rfl, HA, hbe⟩ := hrel
  by_cases hlt : k + 1 < n
  ·have hd : decide ((k : Int) + 1 < (n : Int)) = true := by simp; omega
   obtain ⟨b, off, rfl, hbB, hcap, hr⟩ := HL.out.cells (by omega)
   have hkl : k + 1 < l.length := by rw [HL.out.len]; exact hlt
   obtain ⟨x, hx⟩ : ∃ x, l[k]? = some x := ⟨l[k], List.getElem?_eq_getElem (by omega)⟩
   obtain ⟨y, hy⟩ : ∃ y, l[k + 1]? = some y := ⟨l[k + 1], List.getElem?_eq_getElem hkl⟩
   have HX := zh (fun w' (hb : Below w.heap.size w w') => range_belowS (hr k x hx) hb hbB)
   have HY := zh (fun w' (hb : Below w.heap.size w w') => range_belowS (hr (k + 1) y hy) hb hbB)
   have HIX := zh (info_e (HL.out.ok x (List.mem_of_getElem? hx)))
   have HIY := zh (info_e (HL.out.ok y (List.mem_of_getElem? hy)))
   have HT := zh (upto_succ (f := En.p) hx hy)
   have p1 : (0 : Int) ≤ (k : Int) := by omega
   have p2 : (k : Int) < (n : Int) := by omega
   have p3 : (0 : Int) ≤ (k : Int) + 1 := by omega
   have p4 : (k : Int) + 1 < (n : Int) := by omega
   have q1 : (k : Int) + 1 - 1 = (k : Int) := by omega
   have q2 : ((k : Int) + 1).toNat = k + 1 := by omega
   have q3 : IntKind.i64.wrap ((k : Int) + 1 - 1) = (k : Int) := by rw [q1]; exact IntWalk.i64_in _ (by omega)
   have q4 : IntKind.i64.wrap (k : Int) = (k : Int) := IntWalk.i64_in _ (by omega)
   have q5 : IntKind.i64.wrap ((k : Int) + 1) = (k : Int) + 1 := IntWalk.i64_in _ (by omega)
   clear hr hx hy hkl
   have HALL : Hid (∀ w', Below w.heap.size w w' → w'.rangeAt b (off + k * 33) (enL x) ∧ w'.rangeAt b (off + (k + 1) * 33) (enL y)) := fun w' hb => ⟨HX.out _ hb, HY.out _ hb⟩
   have hbd := hbe.out.drew
   obtain ⟨c, hc⟩ : ∃ c, Op.bytesLess x.p.toList y.p.toList = c := ⟨_, rfl⟩
   have HC : Hid (pls x.p y.p = c) := hc
   go_wp2_with fail
   refine wp_region_held_drew (S := fun w' => w'.rangeAt b (off + k * 33) (enL x) ∧ w'.rangeAt b (off + (k + 1) * 33) (enL y)) (by kernel_rfl) (HALL.out _ hbd) (fun hHeld => ?_)
   refine zv 0 rfl ?_
   try simp only [Act.put, List.getElem_toArray, List.getElem_cons_zero, List.setIfInBounds_toArray, List.set_cons_zero, List.set_cons_succ]
   refine zv 1 rfl ?_
   refine zv 2 rfl ?_
   refine zv 3 rfl ?_
   refine zv 4 rfl ?_
   refine zv 7 rfl ?_
   refine zv 8 rfl ?_
   refine zv 9 rfl ?_
   refine zv 10 rfl ?_
   refine' zk 5 rfl (v := _) (yieldsIf_load_mid (by rfl) _ _ rfl _ _ rfl _ _ ?hS5 Tryz.underlying82 rfl HIX.out) ?rest5
   case hS5 =>
    intro w' hSw
    exact hSw.1
   try simp only [Act.put, zuA, zuB, zuC, zuD, zuY, zuF]
   refine' zk 11 rfl (v := _) (yieldsIf_load_mid (by rfl) _ _ rfl _ _ rfl _ _ ?hS11 Tryz.underlying82 rfl HIY.out) ?rest11
   case hS11 =>
    intro w' hSw
    exact hSw.2
   try simp only [Act.put, zuA, zuB, zuC, zuD, zuY, zuF]
   refine zr 6 rfl (fun K hK => ?_)
   go_simp
   with_reducible refine (entryPath_any x _).mono ?_
   rintro e w1 ⟨rfl, hb1⟩
   go_wp2_with fail
   refine hK.out _ _ (HALL.out _ (hbd.trans (hb1.mono hbd.size))) fun _ => ?_; clear hK K
   try simp only [Act.put, zuA, zuB, zuC, zuD, zuY, zuF]
   refine zr 12 rfl (fun K hK => ?_)
   go_simp
   with_reducible refine (entryPath_any y _).mono ?_
   rintro e w2 ⟨rfl, hb2⟩
   go_wp2_with fail
   refine hK.out _ _ (HALL.out _ (hbd.trans ((hb1.trans (hb2.mono hb1.size)).mono hbd.size))) fun _ => ?_; clear hK K
   try simp only [Act.put, zuA, zuB, zuC, zuD, zuY, zuF]
   refine zv 13 rfl ?_
   refine zd ?_ _
   have HB2 := zh (hbd.trans ((hb1.trans (hb2.mono hb1.size)).mono hbd.size))
   clear hb1 hb2 hbd hHeld hc
   have HM : Hid (upto En.p l (k + 1) = c) := by show _ = _; rw [HT.out, HA.out, HC.out]; rfl
   cases c
   ·have HZ : Hid (ascB En.p l = false) := upto_false HM.out (by rw [HL.out.len]; omega)
    go_wp2_with fail
    go_ret
    exact ⟨ret_boolP HZ.out.symm, HB2.out⟩
   ·go_wp2_with fail
    go_roundw
    case rel => exact ⟨k + 1, by omega, by go_num, HM.out, HB2.out⟩
    case measure => simp [intOf]; omega
  ·have hd : decide ((k : Int) + 1 < (n : Int)) = false := by simp; omega
   have HZ : Hid (ascB En.p l = true) := by
    show upto En.p l (l.length - 1) = true
    have h1 := HA.out
    unfold upto at h1 ⊢
    rw [List.all_eq_true] at h1 ⊢
    intro i hi
    exact h1 i (by simp at hi ⊢; have := HL.out.len; omega)
   go_wp2_with fail
   go_ret
   exact ⟨ret_boolP HZ.out.symm, hbe.out⟩
def vldE (l : List En) : Bool := decide (l.length ≤ 64) && !l.any badE && ascB En.p l
theorem Valid_any (sp : Option Addr) (n cap : Nat) (l : List En) (w : World) (hl : EnsIn w w.heap.size sp n cap l) (hn : n ≤ 1000000) :
 Calls Tryz.prog 45 #[.slice sp n cap] w fun e w' => e = .returned (.bool (vldE l)) ∧ Below w.heap.size w w' := by
 have HL := zh hl
 clear hl
 by_cases h64 : n ≤ 64
 ·have hd : decide ((n : Int) ≤ 64) = true := by simp; omega
  have HV : Hid (vldE l = (!l.any badE && ascB En.p l)) := by show _ = _; unfold vldE; rw [decide_eq_true (by rw [HL.out.len]; exact h64)]; rfl
  obtain ⟨c, hc⟩ : ∃ c, l.any badE = c := ⟨_, rfl⟩
  have hF := fun w' (h : EnsIn w' w'.heap.size sp n cap l) => containsE_any sp n cap l w' h hn
  rw [hc] at hF
  have HC := zh hF; have HQ := zh hc
  clear hF hc h64
  cases c
  ·go_enter Tryz.func45, Tryz.ntmps45
   go_wp2_with fail
   refine (HC.out _ HL.out).mono ?_
   rintro e w1 ⟨rfl, hb1⟩
   have HB1 := zh hb1; clear hb1
   go_wp2_with fail
   refine (ascendE_any sp n cap l _ (HL.out.below (HB1.out) (Nat.le_refl _) |>.below (Below.refl w1.heap.size w1) HB1.out.size) hn).mono ?_
   rintro e w2 ⟨rfl, hb2⟩
   have HB2 := zh hb2; clear hb2
   go_wp2_with fail
   go_ret
   exact ⟨ret_boolP (by rw [HV.out, HQ.out]; rfl), HB1.out.trans (HB2.out.mono HB1.out.size)⟩
  ·go_enter Tryz.func45, Tryz.ntmps45
   go_wp2_with fail
   refine (HC.out _ HL.out).mono ?_
   rintro e w1 ⟨rfl, hb1⟩
   have HB1 := zh hb1; clear hb1
   go_wp2_with fail
   go_ret
   exact ⟨ret_boolP (by rw [HV.out, HQ.out]; rfl), HB1.out⟩
 ·have hd : decide ((n : Int) ≤ 64) = false := by simp; omega
  have HV : Hid (vldE l = false) := by show _ = _; unfold vldE; rw [decide_eq_false (by rw [HL.out.len]; exact h64)]; rfl
  go_enter Tryz.func45, Tryz.ntmps45
  go_wp2_with fail
  go_ret
  exact ⟨ret_boolP HV.out.symm, Below.refl _ _⟩
theorem enA_one (x : En) : (enL x).toArray.all (·.oneCell') = true := Array.all_eq_true_iff_forall_mem.2 (by simpa using enL_one x)
theorem infoE3 : (Tryz.prog.info? 82).map (fun i => (i.zero, i.size, i.bytes)) = some (some (.agg zE.toArray), 33, 48) := by kernel_rfl
theorem wpList_build_eq {P : Program} {w : World} {ops : Array Oper} {rest : List Oper} {o : Oper} {a : Act} {Q : Exit → Act → World → Prop} (hgd : o.guard = none) (t : TypeId) (parts : List (Nat × Operand)) (ho : o.op = .build t parts.toArray)
 (vs : List (Nat × Value)) (hv : (parts.map fun (i, x) => (i, a.eval x)) = vs) (v : Value) (hrun : (Instr.build t vs.toArray).run P w = .ok v w) (h : wpList P ops Q rest (a.put o.dst v) w) : wpList P ops Q (o :: rest) a w :=
 wpList_plain hgd fun _ hK => by
  unfold Oper.wp execOp
  simp only [ho, Sem.run_bind, List.map_toArray, hv, hrun, Result.andThen_ok]
  exact hK _ _ h
theorem wpList_slice_eq {P : Program} {w : World} {ops : Array Oper} {rest : List Oper} {o : Oper} {a : Act} {Q : Exit → Act → World → Prop} (hgd : o.guard = none) (t : TypeId) (n : Nat) (parts : List (Nat × Operand)) (ho : o.op = .buildSlice t n parts.toArray)
 (vs : List (Nat × Value)) (hv : (parts.map fun (i, x) => (i, a.eval x)) = vs) (v : Value) (w' : World) (hrun : (Instr.buildSlice t n vs.toArray).run P w = .ok v w') (h : wpList P ops Q rest (a.put o.dst v) w') : wpList P ops Q (o :: rest) a w :=
 wpList_plain hgd fun _ hK => by
  unfold Oper.wp execOp
  simp only [ho, Sem.run_bind, List.map_toArray, hv, hrun, Result.andThen_ok]
  exact hK _ _ h
theorem own_shapeS {w : World} {base e size : Nat} {v : Value} {n : Nat} {xs : List Value} (h : w.ownsRow base e size v n xs) : ∃ sp cap, v = .slice sp n cap := by
 obtain ⟨_, ⟨rfl, h0⟩ | ⟨g, cap, _, rfl, _⟩⟩ := h
 ·subst h0; exact ⟨_, _, rfl⟩
 ·exact ⟨_, _, rfl⟩
theorem own_baseS {w : World} {base e size : Nat} {v : Value} {n : Nat} {xs : List Value} (h : w.ownsRow base e size v n xs) : ∀ k, v.ownBlock = some k → base ≤ k := by
 intro k hk
 obtain ⟨_, ⟨rfl, _⟩ | ⟨g, cap, _, rfl, hb, _⟩⟩ := h
 ·cases hk
 ·injection hk with hk; subst hk; exact hb
theorem own_belowS {w w' : World} {base e size : Nat} {v : Value} {n : Nat} {xs : List Value} (h : w.ownsRow base e size v n xs) (hb : Below w.heap.size w w') : w'.ownsRow base e size v n xs := by
 obtain ⟨hl, h1 | ⟨g, cap, cur, rfl, hbg, hg, rest⟩⟩ := h
 ·exact ⟨hl, .inl h1⟩
 ·exact ⟨hl, .inr ⟨g, cap, cur, rfl, hbg, (hb.block g (Array.getElem?_eq_some_iff.1 hg).1).trans hg, rest⟩⟩
def rowsE (l : List En) : List Value := l.flatMap enL
def rowsC (l : List Cg) : List Value := l.flatMap cgL
theorem rowsE_snoc (l : List En) (x : En) : rowsE (l ++ [x]) = rowsE l ++ enL x := by simp [rowsE]
def OwnE (w : World) (base : Nat) (v : Value) (l : List En) : Prop := w.ownsRow base 82 33 v l.length (rowsE l) ∧ ∀ x ∈ l, OkE x
def OwnC (w : World) (base : Nat) (v : Value) (l : List Cg) : Prop := w.ownsRow base 86 65 v l.length (rowsC l) ∧ ∀ x ∈ l, OkC x
theorem flat_at {α : Type} (f : α → List Value) (sz : Nat) : ∀ (l : List α), (∀ x ∈ l, (f x).length = sz) → ∀ i x, l[i]? = some x → ∀ j v, (f x)[j]? = some v → (l.flatMap f)[i * sz + j]? = some v
 | [], _, i, x, hi, _, _, _ => by simp at hi
 | y :: l, h, 0, x, hi, j, v, hv => by
   have e : y = x := by simpa using hi
   subst e
   have hj := (List.getElem?_eq_some_iff.1 hv).1
   rw [List.flatMap_cons, Nat.zero_mul, Nat.zero_add, List.getElem?_append_left hj, hv]
 | y :: l, h, i + 1, x, hi, j, v, hv => by
   have hy := h y (by simp)
   rw [List.flatMap_cons, List.getElem?_append_right (by rw [hy, Nat.add_mul]; omega), hy, show (i + 1) * sz + j - sz = i * sz + j by rw [Nat.add_mul]; omega]
   exact flat_at f sz l (fun z hz => h z (by simp [hz])) i x (by simpa using hi) j v hv
theorem own_range {α : Type} {f : α → List Value} {sz : Nat} {w : World} {base e : Nat} {g n cap : Nat} {l : List α} (h : w.ownsRow base e sz (.slice (some ⟨g, 0, none⟩) n cap) l.length (l.flatMap f)) (hs : ∀ x ∈ l, (f x).length = sz) (hn : l.length = n) :
 g < w.heap.size ∧ n ≤ cap ∧ ∀ i x, l[i]? = some x → w.rangeAt g (0 + i * sz) (f x) := by
 obtain ⟨_, ⟨h1, _⟩ | ⟨g', cap', cur, h1, _, hg, hle, _, hsz, htk⟩⟩ := h
 ·cases h1
 ·injection h1 with h1 h2 h3
  injection h1 with h1; injection h1 with h1
  subst h1; subst h3
  refine ⟨(Array.getElem?_eq_some_iff.1 hg).1, by omega, fun i x hi j v hv => ?_⟩
  show w.cell? ⟨g, 0 + i * sz + j, none⟩ = some v
  rw [cell_of_row w g _ cur e _ hg, Nat.zero_add]
  have h4 := flat_at f sz l hs i x hi j v hv
  rw [← htk, List.getElem?_take] at h4
  split at h4
  ·simpa using h4
  ·cases h4
theorem OwnE.ens {w : World} {base : Nat} {sp : Option Addr} {n cap : Nat} {l : List En} (h : OwnE w base (.slice sp n cap) l) (hn : l.length = n) : EnsIn w w.heap.size sp n cap l := by
 refine ⟨hn, h.2, fun h0 => ?_⟩
 have h1 := h.1
 obtain ⟨_, ⟨e, e0⟩ | ⟨g, cap', cur, e, _⟩⟩ := h.1
 ·omega
 ·injection e with e1 e2 e3
  subst e1
  obtain ⟨hg, hc, hr⟩ := own_range (f := enL) h1 (fun x hx => enL_length (h.2 x hx)) hn
  exact ⟨g, 0, rfl, hg, hc, hr⟩
theorem OwnC.cgs {w : World} {base : Nat} {sp : Option Addr} {n cap : Nat} {l : List Cg} (h : OwnC w base (.slice sp n cap) l) (hn : l.length = n) : CgsIn w w.heap.size sp n cap l := by
 refine ⟨hn, h.2, fun h0 => ?_⟩
 have h1 := h.1
 obtain ⟨_, ⟨e, e0⟩ | ⟨g, cap', cur, e, _⟩⟩ := h.1
 ·omega
 ·injection e with e1 e2 e3
  subst e1
  obtain ⟨hg, hc, hr⟩ := own_range (f := cgL) h1 (fun x hx => cgL_length (h.2 x hx)) hn
  exact ⟨g, 0, rfl, hg, hc, hr⟩
theorem OwnE.shape {w : World} {base : Nat} {v : Value} {l : List En} (h : OwnE w base v l) : ∃ sp cap, v = .slice sp l.length cap := own_shapeS h.1
theorem OwnC.shape {w : World} {base : Nat} {v : Value} {l : List Cg} (h : OwnC w base v l) : ∃ sp cap, v = .slice sp l.length cap := own_shapeS h.1
theorem OwnE.below {w w' : World} {base : Nat} {v : Value} {l : List En} (h : OwnE w base v l) (hb : Below w.heap.size w w') : OwnE w' base v l := ⟨own_belowS h.1 hb, h.2⟩
theorem OwnC.below {w w' : World} {base : Nat} {v : Value} {l : List Cg} (h : OwnC w base v l) (hb : Below w.heap.size w w') : OwnC w' base v l := ⟨own_belowS h.1 hb, h.2⟩
theorem OwnE.nil (w : World) (base : Nat) : OwnE w base (.slice none 0 0) [] := ⟨World.ownsRow_nil w base _ _, by simp⟩
theorem OwnC.nil (w : World) (base : Nat) : OwnC w base (.slice none 0 0) [] := ⟨World.ownsRow_nil w base _ _, by simp⟩
theorem wpList_append_en {w : World} {ops : Array Oper} {rest : List Oper} {o : Oper} {a : Act} {Q : Exit → Act → World → Prop} (hgd : o.guard = none) (s x : Operand)
 (ho : o.op = .call { callee := .builtin .append, args := #[s, x], argTypes := #[29, 29] }) (base : Nat) (v : Value) (l : List En) (n : Nat) (hn : n = l.length) (hs : a.eval s = v) (hown : OwnE w base v l)
 (g : Nat) (y : En) (hx : a.eval x = .slice (some ⟨g, 0, none⟩) 1 1) (hy : EnB w g y) (hok : OkE y) (hlen : n ≤ 1000000) (hbase : base ≤ w.heap.size)
 (h : ∀ sp cap w', Hid (OwnE w' base (.slice sp (n + 1) cap) (l ++ [y])) → Hid (Below base w w') → Hid (w.grownBy w' v.ownBlock) → wpList Tryz.prog ops Q rest (a.put o.dst (.slice sp (n + 1) cap)) w') : wpList Tryz.prog ops Q (o :: rest) a w := by
 subst hn
 obtain ⟨i0, hi0, hz0, hz1, hz2⟩ := info_parts infoE3
 refine wpList_append_own w hgd s x _ ho base _ i0 _ 33 48 Tryz.underlying29 hi0 hz0 hz1 hz2 rfl (by decide) v l.length _ hs hown.1 ⟨g, 0, none⟩ 1 1 (enL y) hx (by rw [enL_length hok]) ?_ (enL_one y) (by unfold maxLen; omega) (by omega) hbase ?_
 ·intro j u hj
  rw [Addr.add_mid]
  exact hy.all j u hj
 ·intro v' w' h1 h2 _
  obtain ⟨sp, cap, rfl⟩ := own_shapeS h1
  refine h sp cap w' ⟨by rw [rowsE_snoc, List.length_append]; exact h1, fun z hz => ?_⟩ ((Below.refl base w).grown h2 hbase (own_baseS hown.1)) h2
  rcases List.mem_append.1 hz with hz | hz
  ·exact hown.2 z hz
  ·rw [List.mem_singleton.1 hz]; exact hok
end Go.Proofs.YtecllfbadciaoaaGreatDoor
