/-
  The walks of the reference's find and Lookup (conditions: digests of 32 bytes, at most 1000000 elements).
-/
import Derived.Test.YtecllfbadciaoaaGreatDoorZip
import Derived.Test.YtecllfbadciaoaaGreatDoorSnK
import Derived.Laws.AppendOwnNone
set_option maxRecDepth 100000
set_option maxHeartbeats 8000000
namespace Go.Proofs.YtecllfbadciaoaaGreatDoor
open Go.RowKit
theorem results_row_tmpS {P : Program} {fn : Func} {p u : Tmp} {ty : TypeId} (h : fn.results = #[.cell p ty, .tmp u]) (tmps : Array Value) (w : World) (g : Nat) (t : TypeId) (cs : Array Value) (fr : Nat × Nat) (d : TypeDesc)
 (hp : tmps.getD p undef = .pointer (some ⟨g, 0, none⟩)) (hg : w.heap[g]? = some (.cells cs t fr))
 (hu : P.underlying ty = some d) (hd : (match d with | .struct _ | .array _ _ => true | _ => false) = true) (hi : (P.info? ty).map (·.size) = some cs.size) :
 (results fn tmps).run P w = .ok (.tuple #[.agg cs, tmps.getD u undef]) w := by
 have hp' : tmps[p]?.getD undef = .pointer (some ⟨g, 0, none⟩) := by simpa using hp
 simp [results, h, hp', asAddr, run_loadVar_row w g t ty cs fr d hg hu hd hi]
theorem find_take_none {α : Type} {f : α → ByteArray} {l : List α} {p : ByteArray} {k : Nat} {x : α} (h : (l.take k).find? (fun x => decide (f x = p)) = none) (hx : l[k]? = some x) (hn : f x ≠ p) : (l.take (k + 1)).find? (fun x => decide (f x = p)) = none := by
 rw [List.take_add_one, hx, List.find?_append, h]; simp [hn]
theorem find_take_some {α : Type} {f : α → ByteArray} {l : List α} {p : ByteArray} {k : Nat} {x : α} (h : (l.take k).find? (fun x => decide (f x = p)) = none) (hx : l[k]? = some x) (hn : f x = p) : l.find? (fun x => decide (f x = p)) = some x := by
 have hl := (List.getElem?_eq_some_iff.1 hx).1
 have e : l = l.take k ++ x :: l.drop (k + 1) := by
  rw [← (List.getElem?_eq_some_iff.1 hx).2, ← List.drop_eq_getElem_cons hl, List.take_append_drop]
 rw [e, List.find?_append, h]; simp [hn]
def FindRes (w : World) (r : Option Cg) (e : Ending) (w' : World) : Prop := match r with
 | none => e = .returned (.tuple #[.agg (cgL ⟨⟨#[]⟩, zed, zed⟩).toArray, .bool false]) ∧ Below w.heap.size w w'
 | some x => e = .returned (.tuple #[.agg (cgL x).toArray, .bool true]) ∧ Below w.heap.size w w'
def LookRes (w : World) (r : Option En) (e : Ending) (w' : World) : Prop := match r with
 | none => e = .returned (.tuple #[.agg (zed.map (Value.int .u8)).toArray, .bool false]) ∧ Below w.heap.size w w'
 | some x => e = .returned (.tuple #[.agg (x.d.map (Value.int .u8)).toArray, .bool true]) ∧ Below w.heap.size w w'
theorem zeroCg_ok : OkC ⟨⟨#[]⟩, zed, zed⟩ := ⟨D32.zed, D32.zed⟩
theorem dgA_one (d : List Int) : ((d.map (Value.int .u8)).toArray).all (·.oneCell') = true := Array.all_eq_true_iff_forall_mem.2 (by simp [Value.oneCell'])
theorem rlook_any (sp : Option Addr) (n cap : Nat) (l : List En) (p : ByteArray) (w : World) (hl : EnsIn w w.heap.size sp n cap l) (hn : n ≤ 1000000) :
 Calls Tryz.prog 79 #[.slice sp n cap, .string p] w (LookRes w (fe l p)) := by
 have HL := zh hl; clear hl
 have HI0 : Hid ((Tryz.prog.info? 80).map (·.size) = some (zed.map (Value.int .u8)).toArray.size) := by show _ = _; rw [List.size_toArray]; exact info_d D32.zed
 have HI0s : Hid (32 = (zed.map (Value.int .u8)).toArray.size) := by show _ = _; rfl
 go_enter Tryz.func79, Tryz.ntmps79
 go_wp2_with fail
 generalize hw1 : World.alloc w _ = w1
 have hr1 : w1.heap[w.heap.size]? = some (.cells (Array.replicate 32 (Value.int .u8 0)) 80 (0, 0)) := by rw [← hw1]; exact heap_alloc_new _ _
 have hb1 : Below w.heap.size w w1 := by rw [← hw1]; exact (Below.refl _ _).alloc (Nat.le_refl _) _
 have HR1 := zh hr1; have HB1 := zh hb1
 clear hw1 hr1 hb1
 go_loop [6] (fun i => ∃ k : Nat, k ≤ n ∧ i = .int .i64 k ∧ Hid ((l.take k).find? (fun x => decide (x.p = p)) = none)) (fun i => n - (intOf i).toNat)
 case atStart => exact ⟨0, Nat.zero_le _, rfl, rfl⟩
 case round =>
 obtain ⟨k, hk, rfl, HA⟩ := hrel
 by_cases hlt : k < n
 ·have hd : decide ((k : Int) < (n : Int)) = true := by simp; omega
  obtain ⟨x, hx⟩ : ∃ x, l[k]? = some x := ⟨l[k]'(by have := HL.out.len; omega), List.getElem?_eq_getElem _⟩
  obtain ⟨b, off, rfl, hbB, hcap, -⟩ := HL.out.cells (by omega)
  have hxr := range_belowS (HL.out.at hx).2 HB1.out hbB
  have hxp := rngE_p hxr
  have HXR := zh hxr
  have HOX := zh (HL.out.ok x (List.mem_of_getElem? hx))
  have HI1 : Hid ((Tryz.prog.info? 80).map (·.size) = some (x.d.map (Value.int .u8)).toArray.size) := by show _ = _; rw [List.size_toArray]; exact info_d HOX.out
  have HI1s : Hid (32 = (x.d.map (Value.int .u8)).toArray.size) := by show _ = _; rw [List.size_toArray]; simpa using (show 32 = x.d.length from HOX.out.1.symm)
  have p1 : (0 : Int) ≤ (k : Int) := by omega
  have p2 : (k : Int) < (n : Int) := by omega
  by_cases hxe : x.p = p
  ·have HF : Hid (fe l p = some x) := find_take_some HA.out hx hxe
   have hte : (x.p.toList == p.toList) = true := by rw [hxe]; simp
   clear hx hxe hxr
   go_wp2_with (first
    | (refine wpList_load_mid rfl 80 _ rfl b (off + k * 33 + 1) rfl _ _ (rngE_d HXR.out) Tryz.underlying80 rfl (info_d HOX.out) ?_)
    | (refine wpList_store_row rfl 80 _ _ rfl w.heap.size _ rfl rfl 80 _ HR1.out HI1.out ((rfl : ((Array.replicate 32 (Value.int .u8 0))).size = 32).trans HI1s.out) (dgA_one x.d) ?_; have hr2 := setRow_heap _ _ _ (x.d.map (Value.int .u8)).toArray _ _ HR1.out; have hb2 := below_setRow HB1.out (Nat.le_refl w.heap.size) (x.d.map (Value.int .u8)).toArray; generalize World.setRow _ _ _ = w2 at hr2 hb2 ⊢; have HR2 := zh hr2; have HB2 := zh hb2; clear hr2 hb2))
   refine bodyPost_ret (results_row_tmpS (P := Tryz.prog) rfl _ _ w.heap.size 80 _ (0, 0) _ rfl HR2.out Tryz.underlying80 rfl HI1.out) rfl ?_
   rw [HF.out]
   exact ⟨rfl, HB2.out⟩
  ·have HF := zh (find_take_none HA.out hx hxe)
   have hte : (x.p.toList == p.toList) = false := by rw [beq_eq_false_iff_ne]; exact fun e => hxe (toList_inj e)
   clear hx hxe hxr
   go_wp2_with fail
   go_round
   case rel => exact ⟨k + 1, by omega, by go_num, HF⟩
   case measure => simp [intOf]; omega
 ·obtain rfl : k = n := by omega
  have hd : decide ((k : Int) < (k : Int)) = false := by simp
  have HF : Hid (fe l p = none) := by have := HA.out; rw [List.take_of_length_le (by rw [HL.out.len]; exact Nat.le_refl _)] at this; exact this
  go_wp2_with (refine wpList_store_row rfl 80 _ _ rfl w.heap.size (zed.map (Value.int .u8)).toArray rfl (by rfl) 80 _ HR1.out HI0.out ((rfl : ((Array.replicate 32 (Value.int .u8 0))).size = 32).trans HI0s.out) (dgA_one _) ?_; have hr2 := setRow_heap _ _ _ (zed.map (Value.int .u8)).toArray _ _ HR1.out; have hb2 := below_setRow HB1.out (Nat.le_refl w.heap.size) (zed.map (Value.int .u8)).toArray; generalize World.setRow _ _ _ = w2 at hr2 hb2 ⊢; have HR2 := zh hr2; have HB2 := zh hb2; clear hr2 hb2)
  refine bodyPost_ret (results_row_tmpS (P := Tryz.prog) rfl _ _ w.heap.size 80 _ (0, 0) _ rfl HR2.out Tryz.underlying80 rfl HI0.out) rfl ?_
  rw [HF.out]
  exact ⟨rfl, HB2.out⟩
def slP (sz : Nat) (sp : Option Addr) (k cap : Nat) : Option Addr := if cap = k then sp else sp.map (·.add (k * sz))
theorem sizeOf_of {t : TypeId} {n : Nat} (h : (Tryz.prog.info? t).map (·.size) = some n) (w : World) : (sizeOf t).run Tryz.prog w = .ok n w := by
 cases hi : Tryz.prog.info? t with
 | none => rw [hi] at h; cases h
 | some i => rw [hi] at h; injection h with h; simp [sizeOf, typeInfo, hi, h]
theorem run_cut {t e : TypeId} {sz : Nat} (ht : Tryz.prog.underlying t = some (.slice e)) (he : (Tryz.prog.info? e).map (·.size) = some sz) (w : World) (sp : Option Addr) (n cap k : Nat) (hk : k ≤ n) :
 (Instr.slice t (.slice sp n cap) (some (.int .i64 k)) none none).run Tryz.prog w = .ok (.slice (slP sz sp k cap) (n - k) (cap - k)) w := by
 have h1 : (0 : Int) ≤ (k : Int) ∧ (k : Int) ≤ (n : Int) := ⟨by omega, by omega⟩
 simp [Instr.slice, Instr.sliceBounds, Instr.sliceBound, asIntOf, run_underlying ht, sizeOf_of he, hk, slP]
theorem yieldsIf_cut {t e : TypeId} {sz : Nat} (ht : Tryz.prog.underlying t = some (.slice e)) (he : (Tryz.prog.info? e).map (·.size) = some sz) {ops : Array Oper} {S : World → Prop} {op : Oper} {a : Act} (hw : Region.wanted op (yielded ops a.tmps) = true) (x lo : Operand) (ho : op.op = .slice t x (some lo) none none)
 (sp : Option Addr) (n cap k : Nat) (hx : a.eval x = .slice sp n cap) (hlo : a.eval lo = .int .i64 k) (hk : k ≤ n) : YieldsIf Tryz.prog ops S op (.slice (slP sz sp k cap) (n - k) (cap - k)) a :=
 .inl ⟨hw, fun w _ => by
  unfold execOp
  simp only [ho, Option.map_some, Option.map_none, hx, hlo]
  have := run_cut ht he w sp n cap k hk
  simp [Instr.sliceAt, run_underlying ht, this]⟩
theorem slP_none (sz k cap : Nat) (sp : Option Addr) : (slP sz sp k cap = none) = (sp = none) := by
 unfold slP; split
 ·rfl
 ·simp
theorem ins_at {α : Type} {f : α → ByteArray} {l a b : List α} {x : α} (ha : a.all (fun y => pls (f y) (f x)) = true) (hl : l = a ++ b) (hb : b.head?.all (fun y => !pls (f y) (f x)) = true) : ins f l x = (a ++ [x]) ++ b := by
 subst hl
 have ha' : ∀ y ∈ a, pls (f y) (f x) = true := by simpa using ha
 unfold ins
 have hbt : b.takeWhile (fun y => pls (f y) (f x)) = [] := by
  cases b with
  | nil => rfl
  | cons y b => have : pls (f y) (f x) = false := by simpa using hb
                simp [this]
 have hbd : b.dropWhile (fun y => pls (f y) (f x)) = b := by
  cases b with
  | nil => rfl
  | cons y b => have : pls (f y) (f x) = false := by simpa using hb
                simp [this]
 rw [List.takeWhile_append_of_pos ha', List.dropWhile_append_of_pos ha', hbt, hbd]; simp
theorem CgsIn.cut {w : World} {B : Nat} {sp : Option Addr} {n cap : Nat} {l : List Cg} (h : CgsIn w B sp n cap l) {k : Nat} (hk : k ≤ n) : CgsIn w B (slP 65 sp k cap) (n - k) (cap - k) (l.drop k) :=
 ⟨by rw [List.length_drop, h.len], fun x hx => h.ok x (List.mem_of_mem_drop hx), fun hn => by
  obtain ⟨b, off, rfl, hlt, hc, hr⟩ := h.cells (by omega)
  refine ⟨b, off + k * 65, ?_, hlt, by omega, fun i x hi => ?_⟩
  ·unfold slP; rw [if_neg (by omega)]; simp only [Option.map_some, Addr.add_mid]
  ·rw [List.getElem?_drop] at hi
   have := hr (k + i) x hi
   rw [show off + (k + i) * 65 = off + k * 65 + i * 65 by omega] at this
   exact this⟩
theorem wp_appendsCgS {o : Oper} {a : Act} {w : World} {K : Act → World → Prop} {Q : Exit → Act → World → Prop} (s x : Operand)
 (ho : o.op = .call { callee := .builtin .append, args := #[s, x], argTypes := #[48, 48] }) (base : Nat) (v : Value) (l : List Cg) (n : Nat) (hn : n = l.length) (hs : a.eval s = v) (hown : OwnC w base v l)
 (sp : Option Addr) (m c : Nat) (hx : a.eval x = .slice sp m c) {B : Nat} {l2 : List Cg} (hsrc : CgsIn w B sp m c l2) (hnil : sp = none → c = 0) (hlen : n ≤ 1000000) (hm : m ≤ 1000000) (hbase : base ≤ w.heap.size)
 (h : ∀ sp' cap w', Hid (OwnC w' base (.slice sp' (n + m) cap) (l ++ l2)) → Hid (Below base w w') → K (a.put o.dst (.slice sp' (n + m) cap)) w') : o.wp Tryz.prog a w K Q := by
 subst hn
 obtain ⟨i0, hi0, hz0, hz1, hz2⟩ := info_parts infoC3
 have hok : ∀ z ∈ l ++ l2, OkC z := fun z hz => by
  rcases List.mem_append.1 hz with hz | hz
  ·exact hown.2 z hz
  ·exact hsrc.ok z hz
 have hl2 := hsrc.len
 cases sp with
 | none =>
   have hm0 : m = 0 := by
    by_cases h0 : 0 < m
    ·obtain ⟨_, _, e, _⟩ := hsrc.cells h0; cases e
    ·omega
   have hn2 : l2 = [] := List.eq_nil_of_length_eq_zero (by omega)
   subst hn2 hm0
   have hc0 := hnil rfl
   subst hc0
   have hrun := run_append_owned_none (P := Tryz.prog) (w := w) base 48 o.type 86 i0 65 Tryz.underlying48 hi0 v l.length (rowsC l) hown.1
   obtain ⟨sp', cap', rfl⟩ := own_shapeS hown.1
   unfold Oper.wp
   simp [execOp, ho, resolve, invoke, builtin, hs, hx, hrun, Result.andThen]
   exact h sp' cap' w ⟨by rw [List.append_nil]; exact hown.1, hok⟩ (Below.refl _ _)
 | some ad =>
   have hcells : ∀ j u, (l2.flatMap cgL)[j]? = some u → w.cell? (ad.add j) = some u := by
    intro j u hj
    have hlt := (List.getElem?_eq_some_iff.1 hj).1
    have hfl : (l2.flatMap cgL).length = m * 65 := by
     rw [List.length_flatMap, ← hl2]
     have : ∀ q : List Cg, (∀ z ∈ q, OkC z) → (q.map fun z => (cgL z).length).sum = q.length * 65 := by
      intro q hq
      induction q with
      | nil => rfl
      | cons z q ih => rw [List.map_cons, List.sum_cons, ih (fun y hy => hq y (by simp [hy])), cgL_length (hq z (by simp)), List.length_cons]; omega
     exact this l2 hsrc.ok
    obtain ⟨b, off, e, _, _, hr⟩ := hsrc.cells (by omega)
    injection e with e; subst e
    rw [Addr.add_mid]
    have hi : j / 65 < l2.length := by rw [hl2]; exact Nat.div_lt_of_lt_mul (by rw [Nat.mul_comm]; omega)
    have hx' : l2[j / 65]? = some l2[j / 65] := List.getElem?_eq_getElem hi
    have hjm : j % 65 < (cgL l2[j / 65]).length := by rw [cgL_length (hsrc.ok _ (List.getElem_mem hi))]; exact Nat.mod_lt _ (by decide)
    have hv := flat_at cgL 65 l2 (fun z hz => cgL_length (hsrc.ok z hz)) (j / 65) _ hx' (j % 65) _ (List.getElem?_eq_getElem hjm)
    rw [show j / 65 * 65 + j % 65 = j by omega, hj] at hv
    have := hr (j / 65) _ hx' (j % 65) _ (List.getElem?_eq_getElem hjm)
    rw [← hv] at this
    rw [show off + j = off + j / 65 * 65 + j % 65 by omega]
    exact this
   have hfl : (l2.flatMap cgL).length = m * 65 := by
    rw [List.length_flatMap, ← hl2]
    have : ∀ q : List Cg, (∀ z ∈ q, OkC z) → (q.map fun z => (cgL z).length).sum = q.length * 65 := by
     intro q hq
     induction q with
     | nil => rfl
     | cons z q ih => rw [List.map_cons, List.sum_cons, ih (fun y hy => hq y (by simp [hy])), cgL_length (hq z (by simp)), List.length_cons]; omega
    exact this l2 hsrc.ok
   refine wp_append_own w s x _ ho base _ i0 _ 65 80 Tryz.underlying48 hi0 hz0 hz1 hz2 rfl (by decide) v l.length _ hs hown.1 ad m c (l2.flatMap cgL) hx hfl hcells ?_ (by unfold maxLen; omega) (by omega) hbase ?_
   ·intro u hu
    obtain ⟨z, _, hz⟩ := List.mem_flatMap.1 hu
    exact cgL_one z u hz
   ·intro v' w' h1 h2 _
    obtain ⟨sp', cap, rfl⟩ := own_shapeS h1
    refine h sp' cap w' ⟨?_, hok⟩ ((Below.refl base w).grown h2 hbase (own_baseS hown.1))
    rw [List.length_append, hl2, show rowsC (l ++ l2) = rowsC l ++ l2.flatMap cgL by simp [rowsC]]
    exact h1
theorem rput_any (sp : Option Addr) (n cap : Nat) (l : List Cg) (x : Cg) (w : World) (hl : CgsIn w w.heap.size sp n cap l) (hnil : sp = none → cap = 0) (hx : OkC x) (hn : n ≤ 400000) :
 Calls Tryz.prog 80 #[.slice sp n cap, .agg (cgL x).toArray] w fun e w' => ∃ sp' cap', e = .returned (.slice sp' (n + 1) cap') ∧ OwnC w' w.heap.size (.slice sp' (n + 1) cap') (ins Cg.p l x) ∧ Below w.heap.size w w' := by
 have HL := zh hl; have HOX := zh hx
 have HIX := zh (info_c hx)
 have HNW := zh (CgB.new w x)
 have hb0 : Below w.heap.size w (w.alloc (.cells (cgL x).toArray 86)) := (Below.refl _ w).alloc (Nat.le_refl _) _
 have HB0 := zh hb0
 clear hl hx hb0
 go_enter Tryz.func80, Tryz.ntmps80
 go_wp2_with fail
 generalize hw0 : World.alloc w _ = w0
 have hx0 : CgB w0 w.heap.size x := by rw [← hw0]; exact HNW.out
 have hbl0 : Below w.heap.size w w0 := by rw [← hw0]; exact HB0.out
 have hs0 : w.heap.size + 1 ≤ w0.heap.size := by rw [← hw0]; simp
 have HBX := zh hx0; have HBL0 := zh hbl0
 have HL := zh (HL.out.below hbl0 (Nat.le_refl _))
 clear hw0 hx0 hbl0 HNW HB0
 go_loopw [5, 6] (fun v i wr => ∃ (k : Nat) (sp' : Option Addr) (cap' : Nat), k ≤ n ∧ i = .int .i64 k ∧ v = .slice sp' k cap' ∧ Hid (OwnC wr (w.heap.size + 1) (.slice sp' k cap') (l.take k)) ∧ Hid ((l.take k).all (fun y => pls y.p x.p) = true) ∧ Hid (Below (w.heap.size + 1) w0 wr)) (fun _ i _ => n - (intOf i).toNat)
 case atStart => exact ⟨0, _, _, Nat.zero_le _, rfl, rfl, OwnC.nil _ _, rfl, Below.refl _ _⟩
 case round =>
 obtain ⟨k, sp', cap', hk, rfl, rfl, hown, HALL, hbe⟩ := hrel
 have hbs : w.heap.size + 1 ≤ wr.heap.size := Nat.le_trans hs0 hbe.out.size
 have hk0 : (0 : Int) ≤ (k : Int) := by omega
 have HKL : Hid (k = (l.take k).length) := by show _ = _; rw [List.length_take, HL.out.len]; omega
 have hxp := (HBX.out.below hbe.out (Nat.lt_succ_self _)).p
 by_cases hgo : ∃ y, l[k]? = some y ∧ pls y.p x.p = true
 ·obtain ⟨y, hy, hp⟩ := hgo
  have hlt : k < n := by have := (List.getElem?_eq_some_iff.1 hy).1; have := HL.out.len; omega
  have hd : decide ((k : Int) < (n : Int)) = true := by simp; omega
  obtain ⟨b, off, rfl, hbB, hcap, -⟩ := HL.out.cells (by omega)
  have hyr := range_belowS (HL.out.at hy).2 hbe.out (by omega)
  have hyp := rng_p hyr
  have HYR := zh hyr
  have HOY := zh (HL.out.ok y (List.mem_of_getElem? hy))
  have HIY := zh (info_c HOY.out)
  have HT : Hid (l.take (k + 1) = l.take k ++ [y]) := by show _ = _; rw [List.take_add_one, hy]; rfl
  have HALL2 : Hid ((l.take (k + 1)).all (fun y => pls y.p x.p) = true) := by show _ = _; rw [HT.out, List.all_append, HALL.out]; simp [hp]
  have hlt2 : Op.bytesLess y.p.toList x.p.toList = true := hp
  have p2 : (k : Int) < (n : Int) := by omega
  clear hy hp hyr
  go_wp2_with fail
  go_quiet (fail)
  generalize hwd : World.drewN wr nq = wd
  have hbd : Below wr.heap.size wr wd := by rw [← hwd]; exact ⟨rfl, rfl, rfl, Nat.le_refl _, fun _ _ => rfl⟩
  have hsd : wd.heap.size = wr.heap.size := by rw [← hwd]; rfl
  have HSD := zh hsd
  have HBD := zh (hbe.out.trans (hbd.mono hbs))
  have HOD := zh (hown.out.below hbd)
  have HYD := zh (range_belowS HYR.out hbd (by omega))
  have hbsd : w.heap.size + 1 ≤ wd.heap.size := by omega
  clear hwd hbd hsd hxp hyp hlt2
  go_wp2_with (first
   | (refine wpList_load_mid rfl 86 _ rfl b (off + k * 65) rfl _ _ HYD.out Tryz.underlying86 rfl HIY.out ?_)
   | (refine wpList_slice_eq rfl 48 1 [(0, .tmp 25)] rfl [(0, .agg (cgL y).toArray)] rfl _ _ (sliceC _ y HOY.out) ?_; have hz4 : CgB (wd.alloc (.cells (cgL y).toArray 86)) wd.heap.size y := (CgB.new wd y); have ho4 := (HOD.out.below ((Below.refl wd.heap.size wd).alloc (Nat.le_refl _) (.cells (cgL y).toArray 86))); have HZ4 := zh hz4; have HO4 := zh ho4; clear hz4 ho4)
   | (at_builtin; refine wpList_append_cg rfl (.tmp 21) (.tmp 26) rfl (w.heap.size + 1) _ _ k HKL.out rfl HO4.out wd.heap.size y rfl HZ4.out HOY.out (by omega) (by simp; omega) ?_; intro sp5 cap5 w5 HO5 HB5 HG5))
  have HB6 := zh ((HBD.out.trans (((Below.refl _ wd).alloc (Nat.le_refl _) _).mono hbsd)).trans HB5.out)
  go_roundw
  case rel => exact ⟨k + 1, sp5, cap5, by omega, by go_num, rfl, by show OwnC _ _ _ _; rw [HT.out]; exact HO5.out, HALL2, HB6⟩
  case measure => simp [intOf]; omega
 ·have hst : ∀ y, l[k]? = some y → pls y.p x.p = false := fun y hy => by
   by_cases h : pls y.p x.p = true
   ·exact absurd ⟨y, hy, h⟩ hgo
   ·simpa using h
  have HINS : Hid (ins Cg.p l x = (l.take k ++ [x]) ++ l.drop k) := by
   show _ = _
   have h1 : l = l.take k ++ l.drop k := (List.take_append_drop k l).symm
   have h2 : (l.drop k).head?.all (fun y => !pls y.p x.p) = true := by
    rw [List.head?_drop]
    cases hy : l[k]? with
    | none => rfl
    | some y => simp [hst y hy]
   exact ins_at HALL.out h1 h2
  have HKN : Hid (k + 1 + (n - k) = n + 1) := by show _ = _; omega
  by_cases hlt : k < n
  ·obtain ⟨y, hy⟩ : ∃ y, l[k]? = some y := ⟨l[k]'(by have := HL.out.len; omega), List.getElem?_eq_getElem _⟩
   have hd : decide ((k : Int) < (n : Int)) = true := by simp; omega
   obtain ⟨b, off, hspe, hbB, hcap, -⟩ := HL.out.cells (by omega)
   have hyp : wr.cell? ⟨b, off + k * 65, none⟩ = some (.string y.p) := by
    have h1 := HL.out
    rw [hspe] at h1
    exact rng_p (range_belowS (h1.at hy).2 hbe.out (by omega))
   have hlt2 : Op.bytesLess y.p.toList x.p.toList = false := hst y hy
   have p2 : (k : Int) < (n : Int) := by omega
   clear hgo hst hy
   subst hspe
   go_wp2_with fail
   go_quiet (fail)
   generalize hwd : World.drewN wr nq = wd
   have hbd : Below wr.heap.size wr wd := by rw [← hwd]; exact ⟨rfl, rfl, rfl, Nat.le_refl _, fun _ _ => rfl⟩
   have HBD := zh (hbe.out.trans (hbd.mono hbs))
   have HOD := zh (hown.out.below hbd)
   have hbsd := Nat.le_trans hbs hbd.size
   clear hwd hbd hxp
   go_wp2_with fail
   refine wp_region_held_drew (S := fun w' => CgB w' w.heap.size x ∧ CgsIn w' (w.heap.size + 1) (some ⟨b, off, none⟩) n cap l) (by kernel_rfl) ⟨HBX.out.below HBD.out.drew (Nat.lt_succ_self _), HL.out.below HBD.out.drew (Nat.le_succ _)⟩ (fun hHeld => ?_)
   refine zv 0 rfl ?_
   refine' zk 1 rfl (v := _) (yieldsIf_load_mid (by rfl) _ _ rfl _ _ rfl _ _ ?hS1n2q Tryz.underlying86 rfl HIX.out) ?rest1n2q
   case hS1n2q =>
    intro w' hSw
    exact hSw.1.all
   try simp only [Act.put, zuA, zuB, zuC, zuD, zuY, zuF]
   refine zv 4 rfl ?_
   refine zv 5 rfl ?_
   refine' zk 6 rfl (v := _) (yieldsIf_cut Tryz.underlying48 infoC (by rfl) _ _ rfl (some ⟨b, off, none⟩) n cap k rfl rfl hk) ?rest6cq
   try simp only [Act.put, zuA, zuB, zuC, zuD, zuY, zuF]
   refine zr 2 rfl (fun K hK => ?_)
   rw [if_pos (by rfl)]
   refine wp_slice_eqS 48 1 [(0, .tmp 31)] rfl [(0, .agg (cgL x).toArray)] rfl _ _ (sliceC _ x HOX.out) ?_
   generalize hw3 : World.alloc wd.drew _ = w3
   have hz3 : CgB w3 wd.heap.size x := by rw [← hw3]; exact heap_alloc_new wd.drew _
   have hb3 : Below wd.heap.size wd w3 := by rw [← hw3]; exact ((Below.refl _ wd).drew).alloc (Nat.le_refl _) _
   have hs3 : wd.heap.size < w3.heap.size := by rw [← hw3, World.size_alloc]; exact Nat.lt_succ_self _
   have HZ3 := zh hz3
   have HB3 := zh (HBD.out.trans (hb3.mono hbsd))
   have HO3 := zh (HOD.out.below hb3)
   clear hw3 hz3 hb3
   refine hK.out _ _ ⟨HBX.out.below HB3.out (Nat.lt_succ_self _), HL.out.below HB3.out (Nat.le_succ _)⟩ fun _ => ?_; clear hK K
   try simp only [Act.put, zuA, zuB, zuC, zuD, zuY, zuF]
   have HKL4 : Hid (k + 1 = (l.take k ++ [x]).length) := by show _ = _; rw [List.length_append, ← HKL.out]; rfl
   refine zr 3 rfl (fun K hK => ?_)
   rw [if_pos (by rfl)]
   refine wp_append_cgS (.tmp 30) (.tmp 32) rfl (w.heap.size + 1) _ _ k HKL.out rfl HO3.out wd.heap.size x rfl HZ3.out HOX.out (by omega) (by omega) ?_
   intro sp4 cap4 w4 HO4 HB4 HG4
   have HB5 := zh (HB3.out.trans HB4.out)
   have hs4 := HB4.out.size
   refine hK.out _ _ ⟨HBX.out.below HB5.out (Nat.lt_succ_self _), HL.out.below HB5.out (Nat.le_succ _)⟩ fun _ => ?_; clear hK K
   try simp only [Act.put, zuA, zuB, zuC, zuD, zuY, zuF]
   refine zr 7 rfl (fun K hK => ?_)
   rw [if_pos (by rfl)]
   refine wp_appendsCgS (.tmp 33) (.tmp 36) rfl (w.heap.size + 1) _ _ (k + 1) HKL4.out rfl HO4.out _ (n - k) (cap - k) rfl (HL.out.below HB5.out (Nat.le_succ _) |>.cut hk) (by rw [slP_none]; exact fun h => by rw [hnil h]; simp) (by omega) (by omega) (by omega) ?_
   intro sp6 cap6 w6 HO6 HB6
   have HB7 := zh (HB5.out.trans HB6.out)
   refine hK.out _ _ ⟨HBX.out.below HB7.out (Nat.lt_succ_self _), HL.out.below HB7.out (Nat.le_succ _)⟩ fun _ => ?_; clear hK K
   try simp only [Act.put, zuA, zuB, zuC, zuD, zuY, zuF]
   refine zv 8 rfl ?_
   refine zd ?_ _
   have HO6' := zh (HO6.out.base (Nat.le_succ w.heap.size))
   go_wp2_with fail
   go_ret
   refine ⟨sp6, cap6, ?_, ?_, HBL0.out.trans (HB7.out.mono (Nat.le_succ _))⟩
   ·rw [← HKN.out]; rfl
   ·rw [← HKN.out, HINS.out]; exact HO6'.out
  ·obtain rfl : k = n := by omega
   have hd : decide ((k : Int) < (k : Int)) = false := by simp
   clear hgo hst
   go_wp2_with fail
   go_quiet (fail)
   generalize hwd : World.drewN wr nq = wd
   have hbd : Below wr.heap.size wr wd := by rw [← hwd]; exact ⟨rfl, rfl, rfl, Nat.le_refl _, fun _ _ => rfl⟩
   have HBD := zh (hbe.out.trans (hbd.mono hbs))
   have HOD := zh (hown.out.below hbd)
   have hbsd := Nat.le_trans hbs hbd.size
   clear hwd hbd hxp
   go_wp2_with fail
   refine wp_region_held_drew (S := fun w' => CgB w' w.heap.size x ∧ CgsIn w' (w.heap.size + 1) sp k cap l) (by kernel_rfl) ⟨HBX.out.below HBD.out.drew (Nat.lt_succ_self _), HL.out.below HBD.out.drew (Nat.le_succ _)⟩ (fun hHeld => ?_)
   refine zv 0 rfl ?_
   refine' zk 1 rfl (v := _) (yieldsIf_load_mid (by rfl) _ _ rfl _ _ rfl _ _ ?hS1n2 Tryz.underlying86 rfl HIX.out) ?rest1n2
   case hS1n2 =>
    intro w' hSw
    exact hSw.1.all
   try simp only [Act.put, zuA, zuB, zuC, zuD, zuY, zuF]
   refine zv 4 rfl ?_
   refine zv 5 rfl ?_
   refine' zk 6 rfl (v := _) (yieldsIf_cut Tryz.underlying48 infoC (by rfl) _ _ rfl sp k cap k rfl rfl hk) ?rest6c
   try simp only [Act.put, zuA, zuB, zuC, zuD, zuY, zuF]
   refine zr 2 rfl (fun K hK => ?_)
   rw [if_pos (by rfl)]
   refine wp_slice_eqS 48 1 [(0, .tmp 31)] rfl [(0, .agg (cgL x).toArray)] rfl _ _ (sliceC _ x HOX.out) ?_
   generalize hw3 : World.alloc wd.drew _ = w3
   have hz3 : CgB w3 wd.heap.size x := by rw [← hw3]; exact heap_alloc_new wd.drew _
   have hb3 : Below wd.heap.size wd w3 := by rw [← hw3]; exact ((Below.refl _ wd).drew).alloc (Nat.le_refl _) _
   have hs3 : wd.heap.size < w3.heap.size := by rw [← hw3, World.size_alloc]; exact Nat.lt_succ_self _
   have HZ3 := zh hz3
   have HB3 := zh (HBD.out.trans (hb3.mono hbsd))
   have HO3 := zh (HOD.out.below hb3)
   clear hw3 hz3 hb3
   refine hK.out _ _ ⟨HBX.out.below HB3.out (Nat.lt_succ_self _), HL.out.below HB3.out (Nat.le_succ _)⟩ fun _ => ?_; clear hK K
   try simp only [Act.put, zuA, zuB, zuC, zuD, zuY, zuF]
   have HKL4 : Hid (k + 1 = (l.take k ++ [x]).length) := by show _ = _; rw [List.length_append, ← HKL.out]; rfl
   refine zr 3 rfl (fun K hK => ?_)
   rw [if_pos (by rfl)]
   refine wp_append_cgS (.tmp 30) (.tmp 32) rfl (w.heap.size + 1) _ _ k HKL.out rfl HO3.out wd.heap.size x rfl HZ3.out HOX.out (by omega) (by omega) ?_
   intro sp4 cap4 w4 HO4 HB4 HG4
   have HB5 := zh (HB3.out.trans HB4.out)
   have hs4 := HB4.out.size
   refine hK.out _ _ ⟨HBX.out.below HB5.out (Nat.lt_succ_self _), HL.out.below HB5.out (Nat.le_succ _)⟩ fun _ => ?_; clear hK K
   try simp only [Act.put, zuA, zuB, zuC, zuD, zuY, zuF]
   refine zr 7 rfl (fun K hK => ?_)
   rw [if_pos (by rfl)]
   refine wp_appendsCgS (.tmp 33) (.tmp 36) rfl (w.heap.size + 1) _ _ (k + 1) HKL4.out rfl HO4.out _ (k - k) (cap - k) rfl (HL.out.below HB5.out (Nat.le_succ _) |>.cut hk) (by rw [slP_none]; exact fun h => by rw [hnil h]; simp) (by omega) (by omega) (by omega) ?_
   intro sp6 cap6 w6 HO6 HB6
   have HB7 := zh (HB5.out.trans HB6.out)
   refine hK.out _ _ ⟨HBX.out.below HB7.out (Nat.lt_succ_self _), HL.out.below HB7.out (Nat.le_succ _)⟩ fun _ => ?_; clear hK K
   try simp only [Act.put, zuA, zuB, zuC, zuD, zuY, zuF]
   refine zv 8 rfl ?_
   refine zd ?_ _
   have HO6' := zh (HO6.out.base (Nat.le_succ w.heap.size))
   go_wp2_with fail
   go_ret
   refine ⟨sp6, cap6, ?_, ?_, HBL0.out.trans (HB7.out.mono (Nat.le_succ _))⟩
   ·rw [← HKN.out]; rfl
   ·rw [← HKN.out, HINS.out]; exact HO6'.out
theorem EnsIn.cut {w : World} {B : Nat} {sp : Option Addr} {n cap : Nat} {l : List En} (h : EnsIn w B sp n cap l) {k : Nat} (hk : k ≤ n) : EnsIn w B (slP 33 sp k cap) (n - k) (cap - k) (l.drop k) :=
 ⟨by rw [List.length_drop, h.len], fun x hx => h.ok x (List.mem_of_mem_drop hx), fun hn => by
  obtain ⟨b, off, rfl, hlt, hc, hr⟩ := h.cells (by omega)
  refine ⟨b, off + k * 33, ?_, hlt, by omega, fun i x hi => ?_⟩
  ·unfold slP; rw [if_neg (by omega)]; simp only [Option.map_some, Addr.add_mid]
  ·rw [List.getElem?_drop] at hi
   have := hr (k + i) x hi
   rw [show off + (k + i) * 33 = off + k * 33 + i * 33 by omega] at this
   exact this⟩
theorem wp_appendsEnS {o : Oper} {a : Act} {w : World} {K : Act → World → Prop} {Q : Exit → Act → World → Prop} (s x : Operand)
 (ho : o.op = .call { callee := .builtin .append, args := #[s, x], argTypes := #[29, 29] }) (base : Nat) (v : Value) (l : List En) (n : Nat) (hn : n = l.length) (hs : a.eval s = v) (hown : OwnE w base v l)
 (sp : Option Addr) (m c : Nat) (hx : a.eval x = .slice sp m c) {B : Nat} {l2 : List En} (hsrc : EnsIn w B sp m c l2) (hnil : sp = none → c = 0) (hlen : n ≤ 1000000) (hm : m ≤ 1000000) (hbase : base ≤ w.heap.size)
 (h : ∀ sp' cap w', Hid (OwnE w' base (.slice sp' (n + m) cap) (l ++ l2)) → Hid (Below base w w') → K (a.put o.dst (.slice sp' (n + m) cap)) w') : o.wp Tryz.prog a w K Q := by
 subst hn
 obtain ⟨i0, hi0, hz0, hz1, hz2⟩ := info_parts infoE3
 have hok : ∀ z ∈ l ++ l2, OkE z := fun z hz => by
  rcases List.mem_append.1 hz with hz | hz
  ·exact hown.2 z hz
  ·exact hsrc.ok z hz
 have hl2 := hsrc.len
 cases sp with
 | none =>
   have hm0 : m = 0 := by
    by_cases h0 : 0 < m
    ·obtain ⟨_, _, e, _⟩ := hsrc.cells h0; cases e
    ·omega
   have hn2 : l2 = [] := List.eq_nil_of_length_eq_zero (by omega)
   subst hn2 hm0
   have hc0 := hnil rfl
   subst hc0
   have hrun := run_append_owned_none (P := Tryz.prog) (w := w) base 29 o.type 82 i0 33 Tryz.underlying29 hi0 v l.length (rowsE l) hown.1
   obtain ⟨sp', cap', rfl⟩ := own_shapeS hown.1
   unfold Oper.wp
   simp [execOp, ho, resolve, invoke, builtin, hs, hx, hrun, Result.andThen]
   exact h sp' cap' w ⟨by rw [List.append_nil]; exact hown.1, hok⟩ (Below.refl _ _)
 | some ad =>
   have hcells : ∀ j u, (l2.flatMap enL)[j]? = some u → w.cell? (ad.add j) = some u := by
    intro j u hj
    have hlt := (List.getElem?_eq_some_iff.1 hj).1
    have hfl : (l2.flatMap enL).length = m * 33 := by
     rw [List.length_flatMap, ← hl2]
     have : ∀ q : List En, (∀ z ∈ q, OkE z) → (q.map fun z => (enL z).length).sum = q.length * 33 := by
      intro q hq
      induction q with
      | nil => rfl
      | cons z q ih => rw [List.map_cons, List.sum_cons, ih (fun y hy => hq y (by simp [hy])), enL_length (hq z (by simp)), List.length_cons]; omega
     exact this l2 hsrc.ok
    obtain ⟨b, off, e, _, _, hr⟩ := hsrc.cells (by omega)
    injection e with e; subst e
    rw [Addr.add_mid]
    have hi : j / 33 < l2.length := by rw [hl2]; exact Nat.div_lt_of_lt_mul (by rw [Nat.mul_comm]; omega)
    have hx' : l2[j / 33]? = some l2[j / 33] := List.getElem?_eq_getElem hi
    have hjm : j % 33 < (enL l2[j / 33]).length := by rw [enL_length (hsrc.ok _ (List.getElem_mem hi))]; exact Nat.mod_lt _ (by decide)
    have hv := flat_at enL 33 l2 (fun z hz => enL_length (hsrc.ok z hz)) (j / 33) _ hx' (j % 33) _ (List.getElem?_eq_getElem hjm)
    rw [show j / 33 * 33 + j % 33 = j by omega, hj] at hv
    have := hr (j / 33) _ hx' (j % 33) _ (List.getElem?_eq_getElem hjm)
    rw [← hv] at this
    rw [show off + j = off + j / 33 * 33 + j % 33 by omega]
    exact this
   have hfl : (l2.flatMap enL).length = m * 33 := by
    rw [List.length_flatMap, ← hl2]
    have : ∀ q : List En, (∀ z ∈ q, OkE z) → (q.map fun z => (enL z).length).sum = q.length * 33 := by
     intro q hq
     induction q with
     | nil => rfl
     | cons z q ih => rw [List.map_cons, List.sum_cons, ih (fun y hy => hq y (by simp [hy])), enL_length (hq z (by simp)), List.length_cons]; omega
    exact this l2 hsrc.ok
   refine wp_append_own w s x _ ho base _ i0 _ 33 48 Tryz.underlying29 hi0 hz0 hz1 hz2 rfl (by decide) v l.length _ hs hown.1 ad m c (l2.flatMap enL) hx hfl hcells ?_ (by unfold maxLen; omega) (by omega) hbase ?_
   ·intro u hu
    obtain ⟨z, _, hz⟩ := List.mem_flatMap.1 hu
    exact enL_one z u hz
   ·intro v' w' h1 h2 _
    obtain ⟨sp', cap, rfl⟩ := own_shapeS h1
    refine h sp' cap w' ⟨?_, hok⟩ ((Below.refl base w).grown h2 hbase (own_baseS hown.1))
    rw [List.length_append, hl2, show rowsE (l ++ l2) = rowsE l ++ l2.flatMap enL by simp [rowsE]]
    exact h1
theorem OwnC.nilcap {w : World} {base n cap : Nat} {sp : Option Addr} {l : List Cg} (h : OwnC w base (.slice sp n cap) l) : sp = none → cap = 0 := by
 rintro rfl
 obtain ⟨_, ⟨e, _⟩ | ⟨g, c, u, e, _⟩⟩ := h.1
 ·injection e
 ·cases e
theorem OwnE.nilcap {w : World} {base n cap : Nat} {sp : Option Addr} {l : List En} (h : OwnE w base (.slice sp n cap) l) : sp = none → cap = 0 := by
 rintro rfl
 obtain ⟨_, ⟨e, _⟩ | ⟨g, c, u, e, _⟩⟩ := h.1
 ·injection e
 ·cases e
structure CpS (w : World) (v : Value) (out : List Cg) (bx : Nat) (y : Cg) (W : World) : Prop where
 own : OwnC W w.heap.size v out
 below : Below w.heap.size w W
 box : CgB W bx y
theorem CpS.lt {w : World} {v : Value} {out : List Cg} {bx : Nat} {y : Cg} {W : World} (h : CpS w v out bx y W) : bx < W.heap.size := (Array.getElem?_eq_some_iff.1 h.box).1
theorem CpS.next {w : World} {v : Value} {out : List Cg} {bx : Nat} {y : Cg} {W W' : World} (h : CpS w v out bx y W) (hb : Below W.heap.size W W') : CpS w v out bx y W' :=
 ⟨h.own.below hb, h.below.trans (hb.mono h.below.size), h.box.below hb h.lt⟩
theorem vldC_parts {l : List Cg} (h : vldC l = true) : l.length ≤ 128 ∧ Srt Cg.p l ∧ ∀ x ∈ l, x.o ≠ x.n := by
 unfold vldC at h
 rw [Bool.and_eq_true, Bool.and_eq_true] at h
 refine ⟨by simpa using h.1.1, (ascB_iff l).1 h.2, fun x hx e => ?_⟩
 have h1 : l.any badC = false := by simpa using h.1.2
 have := List.any_eq_false.1 h1 x hx
 unfold badC at this
 rw [decide_eq_true e] at this; simp at this
theorem vldE_parts {l : List En} (h : vldE l = true) : l.length ≤ 64 ∧ Srt En.p l ∧ ∀ x ∈ l, x.d ≠ zed := by
 unfold vldE at h
 rw [Bool.and_eq_true, Bool.and_eq_true] at h
 refine ⟨by simpa using h.1.1, (ascB_iff l).1 h.2, fun x hx e => ?_⟩
 have h1 : l.any badE = false := by simpa using h.1.2
 have := List.any_eq_false.1 h1 x hx
 unfold badE at this
 rw [decide_eq_true e] at this; simp at this
def e1 : List Int := 1 :: List.replicate 31 0
theorem Turn.setRow {tb g : Nat} {w w1 : World} (h : Turn tb w w1) (hg : w.heap.size ≤ g) (cs : Array Value) : Turn tb w (w1.setRow g cs) := by
 have hb := below_setRow (Below.refl w.heap.size w1) hg cs
 exact ⟨hb.os.trans h.os, hb.tape.trans h.tape, hb.output.trans h.output, Nat.le_trans h.size hb.size, fun k hk hn => (hb.block k hk).trans (h.block k hk hn)⟩
def dg1 (r : Nat) : List Int := (1 + (r : Int)) :: List.replicate 31 0
theorem dg1_ok (r : Nat) (h : r < 6) : D32 (dg1 r) := ⟨rfl, fun x hx => by
 rcases List.mem_cons.1 hx with rfl | h
 ·omega
 ·rw [List.eq_of_mem_replicate h]; omega⟩
theorem dg1_ne (r : Nat) : dg1 r ≠ zed := fun e => by
 have : (1 + (r : Int)) = 0 := by
  have h2 := congrArg (fun l : List Int => l.getD 0 0) e
  exact h2
 omega
theorem buildD1 (x : Int) (w : World) : (Instr.build 80 #[(0, .int .u8 x)]).run Tryz.prog w = .ok (.agg ((x :: List.replicate 31 0).map (Value.int .u8)).toArray) w := by kernel_rfl
theorem tsum_any (tb q : Nat) (w : World) (ht : Tp w tb (q + 1)) :
 Calls Tryz.prog 96 #[.pointer (some ⟨tb, 0, none⟩)] w fun e w' => ∃ d : List Int, e = .returned (.agg (d.map (Value.int .u8)).toArray) ∧ D32 d ∧ d ≠ zed ∧ Tp w' tb q ∧ Turn tb w w' := by
 have HT := zh ht; clear ht
 go_enter Tryz.func96, Tryz.ntmps96
 go_wp2_with fail
 generalize hw0 : World.alloc w _ = w0
 have hr0 : w0.heap[w.heap.size]? = some (.cells (Array.replicate 32 (Value.int .u8 0)) 80 (0, 0)) := by rw [← hw0]; exact heap_alloc_new _ _
 have hb0 : Below w.heap.size w w0 := by rw [← hw0]; exact (Below.refl _ _).alloc (Nat.le_refl _) _
 have HTL := zh HT.out.lt
 have HR0 := zh hr0; have HB0 := zh hb0
 have HT0 := zh (HT.out.of hb0)
 clear hw0 hr0 hb0
 refine (next_any tb 6 q w0 HT0.out (by omega) (by omega)).mono ?_
 rintro e w1 ⟨r, rfl, hr, ht1, hu1⟩
 have hlt0 : w.heap.size < w0.heap.size := (Array.getElem?_eq_some_iff.1 HR0.out).1
 have HR1 := zh ((hu1.block w.heap.size hlt0 (by have := HTL.out; omega)).trans HR0.out)
 have HT1 := zh ht1
 have HU1 := zh ((Turn.of (tb := tb) HB0.out).trans hu1); clear ht1 hu1
 have q1 : IntKind.u8.wrap (1 + (r : Int)) = 1 + (r : Int) := by unfold IntKind.wrap; simp [IntKind.signed, IntKind.bits]; omega
 have HOK := zh (dg1_ok r hr)
 have HI1 : Hid ((Tryz.prog.info? 80).map (·.size) = some ((dg1 r).map (Value.int .u8)).toArray.size) := by show _ = _; rw [List.size_toArray]; exact info_d HOK.out
 have HI1s : Hid (32 = ((dg1 r).map (Value.int .u8)).toArray.size) := by show _ = _; rfl
 go_wp2_with (first
  | (refine wpList_build_eq rfl 80 [(0, .tmp 6)] rfl [(0, .int .u8 (1 + (r : Int)))] rfl _ (buildD1 _ _) ?_)
  | (refine wpList_store_row rfl 80 _ _ rfl w.heap.size ((dg1 r).map (Value.int .u8)).toArray rfl rfl 80 _ HR1.out HI1.out ((rfl : (Array.replicate 32 (Value.int .u8 0)).size = 32).trans HI1s.out) (dgA_one _) ?_))
 refine bodyPost_ret (results_row1 (P := Tryz.prog) rfl _ _ w.heap.size 80 _ (0, 0) _ rfl (setRow_heap _ _ _ _ _ _ HR1.out) Tryz.underlying80 rfl HI1.out) rfl ?_
 exact ⟨dg1 r, rfl, HOK.out, dg1_ne r, HT1.out.ofB (below_setRow (Below.refl w.heap.size w1) (Nat.le_refl _) _) HTL.out, HU1.out.setRow (Nat.le_refl _) _⟩
def dirsT : List ByteArray := [⟨#[97]⟩, ⟨#[98]⟩, ⟨#[115, 114, 99]⟩, ⟨#[111, 117, 116]⟩, ⟨#[108, 105, 98]⟩]
def filesT : List ByteArray := [⟨#[97]⟩, ⟨#[98]⟩, ⟨#[97, 46, 99]⟩, ⟨#[98, 46, 104]⟩, ⟨#[120]⟩, ⟨#[111, 117, 116]⟩]
def preT : Nat → List ByteArray
 | 0 => [⟨#[]⟩]
 | j + 1 => (preT j).flatMap fun s => dirsT.map fun d => s ++ d ++ ⟨#[47]⟩
theorem paths_ok : ∀ j, j < 3 → ∀ s ∈ preT j, ∀ f ∈ filesT, pathB (s ++ f) = true := by decide +kernel
theorem preT_size : ∀ j, j < 3 → ∀ s ∈ preT j, s.size ≤ 100 := by decide +kernel
theorem dirsT_size : ∀ d ∈ dirsT, d.size ≤ 100 := by decide +kernel
theorem filesT_size : ∀ d ∈ filesT, d.size ≤ 100 := by decide +kernel
theorem preT_next {j : Nat} {s d : ByteArray} (h : s ∈ preT j) (hd : d ∈ dirsT) : s ++ d ++ ⟨#[47]⟩ ∈ preT (j + 1) := List.mem_flatMap.2 ⟨s, h, List.mem_map.2 ⟨d, hd, rfl⟩⟩
theorem path_any (tb q : Nat) (w : World) (ht : Tp w tb (q + 4)) :
 Calls Tryz.prog 95 #[.pointer (some ⟨tb, 0, none⟩)] w fun e w' => ∃ s : ByteArray, e = .returned (.string s) ∧ pathB s = true ∧ Tp w' tb q ∧ Turn tb w w' := by
 have HT := zh ht; clear ht
 go_enter Tryz.func95, Tryz.ntmps95
 go_wp2_with fail
 refine (next_any tb 3 (q + 3) w HT.out (by omega) (by omega)).mono ?_
 rintro e w1 ⟨r, rfl, hr, ht1, hu1⟩
 have HT1 := zh ht1; have HU1 := zh hu1; clear ht1 hu1
 go_wp2_with fail
 go_loopw [3, 4] (fun v i wr => ∃ (j n : Nat) (s : ByteArray), j + n = r ∧ i = .int .i64 n ∧ v = .string s ∧ Hid (s ∈ preT j) ∧ Hid (Tp wr tb (q + 1 + n)) ∧ Hid (Turn tb w wr)) (fun _ i _ => (intOf i).toNat)
 case atStart => exact ⟨0, r, _, by omega, rfl, rfl, by show _ ∈ _; exact List.mem_singleton.2 rfl, HT1.out.le (by omega), HU1.out⟩
 case round =>
 clear HT1 HU1
 obtain ⟨j, n, s, hj, rfl, rfl, HS, HTT, HU⟩ := hrel
 by_cases hn : 0 < n
 ·have hd : decide ((n : Int) > 0) = true := by simp; omega
  have q1 : IntKind.i64.wrap ((n : Int) - 1) = (n : Int) - 1 := IntWalk.i64_in _ (by omega)
  go_wp2_with fail
  refine (pick_new tb (q + n) 5 dirsT wr (HTT.out.le (by omega)) rfl (by omega) (by omega)).mono ?_
  rintro e w2 ⟨d, hdm, rfl, ht2, hu2⟩
  have HS2 := zh (preT_next HS.out hdm)
  have z1 := preT_size j (by omega) s HS.out
  have z2 := dirsT_size d hdm
  have g1 : s.size + d.size ≤ 9223372036854775807 := by omega
  have g2 : s.size + d.size + 1 ≤ 9223372036854775807 := by omega
  have HT2 := zh ht2; have HU2 := zh (HU.out.trans hu2)
  clear ht2 hu2 hdm
  go_wp2_with fail
  go_roundw
  case rel => exact ⟨j + 1, n - 1, s ++ d ++ ⟨#[47]⟩, by omega, by go_num, rfl, HS2, HT2.out.le (by omega), HU2⟩
  case measure => simp [intOf]; omega
 ·obtain rfl : n = 0 := by omega
  have HO := zh (paths_ok j (by omega) s HS.out)
  go_wp2_with fail
  refine (pick_new tb q 6 filesT wr (HTT.out.le (by omega)) rfl (by omega) (by omega)).mono ?_
  rintro e w2 ⟨f, hfm, rfl, ht2, hu2⟩
  have HF := zh (HO.out f hfm)
  have z1 := preT_size j (by omega) s HS.out
  have z2 := filesT_size f hfm
  have g1 : s.size + f.size ≤ 9223372036854775807 := by omega
  have HT2 := zh ht2; have HU2 := zh (HU.out.trans hu2)
  clear ht2 hu2 hfm
  go_wp2_with fail
  go_ret
  exact ⟨_, rfl, HF.out, HT2.out, HU2.out⟩
end Go.Proofs.YtecllfbadciaoaaGreatDoor
