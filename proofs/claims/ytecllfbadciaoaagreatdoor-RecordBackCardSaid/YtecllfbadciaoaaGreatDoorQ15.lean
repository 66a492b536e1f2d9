/-
  Lines of a record: what is appended to them (conditions in each theorem).
-/
import Derived.Test.YtecllfbadciaoaaGreatDoorZip
import Derived.Test.YtecllfbadciaoaaGreatDoorQ13
set_option maxRecDepth 100000
set_option maxHeartbeats 8000000
namespace Go.Proofs.YtecllfbadciaoaaGreatDoor
open Go.RowKit
theorem Blks.growR {B : Nat} {w0 w w' : World} {l : List (Nat × Obj)} (h : Blks B w0 w l) (i : Nat) {g : Nat} {o : Obj} (hi : l[i]? = some (g, o)) (hg : w.grownBy w' (some g)) : Blks B w0 w' (l.eraseIdx i) := by
 have hgB := (h.lt i hi).1
 refine ⟨h.b.grown hg h.k (fun k e => by injection e with e; omega), Nat.le_trans h.k hg.size, fun p hp => ?_, ?_⟩
 ·obtain ⟨j, hj⟩ := List.mem_iff_getElem?.1 hp
  have hpl : p ∈ l := List.mem_of_mem_eraseIdx hp
  have h1 := h.h p hpl
  have hne : p.1 ≠ g := by
   intro e
   rw [List.getElem?_eraseIdx] at hj
   split at hj
   ·rename_i hlt
    exact h.ne j i (g := p.1) (o := p.2) hj hi (by omega) e
   ·rename_i hlt
    exact h.ne (j + 1) i (g := p.1) (o := p.2) hj hi (by omega) e
  exact ⟨h1.1, Nat.lt_of_lt_of_le h1.2.1 hg.size, (hg.block p.1 h1.2.1 (fun e => hne (by injection e))).trans h1.2.2⟩
 ·have hs : (l.eraseIdx i).Sublist l := List.eraseIdx_sublist l i
  exact h.nd.sublist (hs.map Prod.fst)
theorem lnOwn_row {w : World} {g B n : Nat} {l : List ByteArray} (hg : w.heap[g]? = some (.cells (l.map Value.string).toArray 9 (0, 0))) (hb : B ≤ g) (hn : l.length = n) (hmax : n ≤ 1000) : LnOwnL w B ⟨some ⟨g, 0, none⟩, n, n, l⟩ :=
 ⟨by rw [List.length_map, hn, Nat.mul_one], .inr ⟨g, n, _, rfl, hb, hg, Nat.le_refl _, by unfold maxLen; omega, by simp [hn], by show (List.map Value.string l).take (n * 1) = _; rw [Nat.mul_one]; exact List.take_of_length_le (by simp [hn])⟩⟩
theorem LnOwnL.lower {w : World} {b b' : Nat} {q : Ln} (h : LnOwnL w b q) (hb : b' ≤ b) : LnOwnL w b' q := own_lower h hb
theorem LnsOwn.lower {w : World} {b b' : Nat} {v : Value} {l : List Ln} (h : LnsOwn w b v l) (hb : b' ≤ b) : LnsOwn w b' v l := ⟨own_lower h.row hb, fun q hq => (h.each q hq).lower hb⟩
theorem wp_append_wdsR {o : Oper} {a : Act} {w : World} {K : Act → World → Prop} {Q : Exit → Act → World → Prop} (s x : Operand)
 (ho : o.op = .call { callee := .builtin .append, args := #[s, x], argTypes := #[27, 27] }) (B g : Nat) (l0 : List ByteArray) (n0 : Nat) (hn0 : l0.length = n0) (h01 : n0 ≤ 1000) (hs : a.eval s = .slice (some ⟨g, 0, none⟩) n0 n0)
 (hg : w.heap[g]? = some (.cells (l0.map Value.string).toArray 9 (0, 0))) (hB : B ≤ g) (hBw : B ≤ w.heap.size) (Bx : Nat) (pa : Option Addr) (np ncap : Nat) (l : List ByteArray) (hx : a.eval x = .slice pa np ncap) (hsrc : StrsIn w Bx pa np l) (hmax : np ≤ 1000)
 (h : ∀ sp cap w', Hid (LnOwnL w' B ⟨sp, n0 + np, cap, l0 ++ l⟩) → Hid (w.grownBy w' (some g)) → K (a.put o.dst (.slice sp (n0 + np) cap)) w') : o.wp Tryz.prog a w K Q := by
 have hrow := lnOwn_row hg hB hn0 h01
 obtain ⟨i0, hi0, hz0, hz1, hz2⟩ := info_parts infoStrS
 by_cases h0 : np = 0
 ·subst h0
  have hl : l = [] := List.eq_nil_of_length_eq_zero hsrc.len
  subst hl
  have hrun : (Builtin.append_ #[27, 27] o.type #[.slice (some ⟨g, 0, none⟩) n0 n0, .slice pa 0 ncap]).run Tryz.prog w = .ok (.slice (some ⟨g, 0, none⟩) n0 n0) w := by
   refine run_append_nothing w _ _ _ 9 i0 Tryz.underlying27 hi0 _ _ _ (Nat.le_refl _) _ ?_
   cases pa with
   | none => exact Src.ofNil w Tryz.underlying27 ncap
   | some ad => exact Src.ofSlice w Tryz.underlying27 ad 0 ncap [] (by simp) (fun j u h => by simp at h) (fun u hu => by cases hu)
  unfold Oper.wp execOp
  simp only [ho, resolve, invoke, builtin, Sem.run_bind, Sem.run_pure, Result.andThen_ok, List.map_toArray, List.map_cons, List.map_nil, hs, hx, hrun]
  exact h _ _ w (by show LnOwnL _ _ _; rw [List.append_nil]; exact hrow) (World.grownBy.refl _ _)
 ·obtain ⟨b, off, rfl, hlt, hc⟩ := hsrc.cells (by omega)
  refine wp_append_own w s x _ ho B _ i0 _ 1 16 Tryz.underlying27 hi0 hz0 hz1 hz2 rfl (by decide) _ n0 _ hs hrow ⟨b, off, none⟩ np ncap (l.map Value.string) hx (by rw [List.length_map, hsrc.len, Nat.mul_one]) ?_ (by intro u hu; obtain ⟨q, _, rfl⟩ := List.mem_map.1 hu; rfl) (by unfold maxLen; omega) (by omega) hBw ?_
  ·intro j u hj
   have hjb : j < l.length := by have := (List.getElem?_eq_some_iff.1 hj).1; simpa using this
   rw [Addr.add_mid, hc j hjb]
   simpa [List.getElem?_eq_getElem hjb] using hj
  ·intro v' w' h1 h2 _
   obtain ⟨sp, cap, rfl⟩ := own_shapeL h1
   exact h sp cap w' (by show World.ownsRow _ _ _ _ _ _ _; rw [List.map_append]; exact h1) h2
theorem wp_append_lnsR {o : Oper} {a : Act} {w : World} {K : Act → World → Prop} {Q : Exit → Act → World → Prop} (s x : Operand)
 (ho : o.op = .call { callee := .builtin .append, args := #[s, x], argTypes := #[59, 59] }) (base : Nat) (v : Value) (done : List Ln) (hs : a.eval s = v) (hown : LnsOwn w base v done)
 (pa : Option Addr) (np ncap : Nat) (ls : List Ln) (hnp : ls.length = np) (hx : a.eval x = .slice pa np ncap) (hsrc : LnsOwn w base (.slice pa np ncap) ls) (h1 : done.length ≤ 100000) (h2 : np ≤ 100000) (hbase : base ≤ w.heap.size)
 (h : ∀ sp cap w', Hid (LnsOwn w' base (.slice sp (done.length + np) cap) (done ++ ls)) → Hid (Below base w w') → K (a.put o.dst (.slice sp (done.length + np) cap)) w') : o.wp Tryz.prog a w K Q := by
 subst hnp
 obtain ⟨i0, hi0, hz0, hz1, hz2⟩ := info_parts infoLnL
 rcases hsrc.row.2 with ⟨e, h0⟩ | ⟨g, cap, cur, e, hb, hgg, hc, hm, hsz, ht⟩
 ·injection e with e1 e2 e3
  subst e1; subst e3
  have hl : ls = [] := List.eq_nil_of_length_eq_zero h0
  subst hl
  obtain ⟨sp, cap, hv⟩ := own_shapeL hown.row
  subst hv
  have hle : done.length ≤ cap := by
   rcases hown.row.2 with ⟨e, h⟩ | ⟨g, cap', cur, e, _, _, h, _⟩
   ·omega
   ·injection e with _ _ e; omega
  have hrun : (Builtin.append_ #[59, 59] o.type #[.slice sp done.length cap, .slice none 0 0]).run Tryz.prog w = .ok (.slice sp done.length cap) w :=
   run_append_nothing w _ _ _ 27 i0 Tryz.underlying59 hi0 _ _ _ hle _ (Src.ofNil w Tryz.underlying59 0)
  have hx' : a.eval x = .slice none 0 0 := hx
  unfold Oper.wp execOp
  simp only [ho, resolve, invoke, builtin, Sem.run_bind, Sem.run_pure, Result.andThen_ok, List.map_toArray, List.map_cons, List.map_nil, hs, hx', hrun]
  exact h _ _ w (by show LnsOwn _ _ _ _; rw [List.append_nil]; exact hown) (Below.refl _ _)
 ·injection e with e1 e2 e3
  subst e1; subst e3
  refine wp_append_own w s x _ ho base _ i0 _ 1 24 Tryz.underlying59 hi0 hz0 hz1 hz2 rfl (by decide) v done.length _ hs hown.row ⟨g, 0, none⟩ ls.length ncap (ls.map Ln.val) hx (by simp) ?_ (by intro u hu; obtain ⟨q, _, rfl⟩ := List.mem_map.1 hu; rfl) (by unfold maxLen; omega) (by omega) hbase ?_
  ·intro j u hj
   have hjb : j < ls.length := by have := (List.getElem?_eq_some_iff.1 hj).1; simpa using this
   obtain ⟨g', off, eg, _, hcell⟩ := (hsrc.lines rfl).cells (by omega)
   injection eg with eg; injection eg with eg1 eg2; subst eg1; subst eg2
   rw [Addr.add_mid, hcell j hjb]
   simpa [List.getElem?_eq_getElem hjb] using hj
  ·intro v' w' g1 g2 _
   obtain ⟨sp, cap, rfl⟩ := own_shapeL g1
   refine h sp cap w' ⟨by rw [List.length_append, List.map_append]; exact g1, fun q hq => ?_⟩ ((Below.refl base w).grown g2 hbase (own_baseL hown.row))
   have hq1 : LnOwnL w base q := by
    rcases List.mem_append.1 hq with h | h
    ·exact hown.each q h
    ·exact hsrc.each q h
   exact World.ownsRow.kept hq1 g2 (own_apartL hq1 hown.row (by decide))
structure EvL (base : Nat) (w2 : World) (v : Value) (done : List Ln) (y : Ln) (w4 : World) : Prop where
 o : LnsOwn w4 base v done
 c : w4.cell? ⟨w2.heap.size + 1, 0, none⟩ = some y.val
 y : LnOwnL w4 base y
 b : Below w2.heap.size w2 w4
 k : base ≤ w4.heap.size
def envW : ByteArray := ⟨#[101, 110, 118]⟩
theorem EvL.new {base : Nat} {w2 : World} {v : Value} {done : List Ln} (ho : LnsOwn w2 base v done) (hb : base ≤ w2.heap.size) (a b : ByteArray) :
 EvL base w2 v done ⟨some ⟨w2.heap.size, 0, none⟩, 3, 3, [envW, a, b]⟩ ((w2.alloc (.cells #[.string envW, .string a, .string b] 9)).alloc (.cells #[.slice (some ⟨w2.heap.size, 0, none⟩) 3 3] 27)) := by
 have h1 := lnOwn_new3 w2 base hb envW a b
 have hb1 : Below w2.heap.size w2 (w2.alloc (.cells #[.string envW, .string a, .string b] 9)) := (Below.refl _ _).alloc (Nat.le_refl _) _
 generalize hw3 : w2.alloc (.cells #[.string envW, .string a, .string b] 9) = w3 at *
 have hs3 : w3.heap.size = w2.heap.size + 1 := by rw [← hw3]; simp
 have hb2 : Below w3.heap.size w3 (w3.alloc (.cells #[.slice (some ⟨w2.heap.size, 0, none⟩) 3 3] 27)) := (Below.refl _ _).alloc (Nat.le_refl _) _
 have hc := heap_alloc_new w3 (.cells #[.slice (some ⟨w2.heap.size, 0, none⟩) 3 3] 27)
 refine ⟨(ho.below hb1).below hb2, ?_, own_belowL h1 hb2, hb1.trans (hb2.mono (by omega)), by have := hb2.size; omega⟩
 rw [← hs3, cell_of_row _ w3.heap.size 0 _ _ _ hc]; rfl
def recW : ByteArray := ⟨#[114, 101, 99, 111, 114, 100]⟩
def cmdW : ByteArray := ⟨#[99, 111, 109, 109, 97, 110, 100]⟩
def matW : ByteArray := ⟨#[109, 97, 116, 101, 114, 105, 97, 108]⟩
def prdW : ByteArray := ⟨#[112, 114, 111, 100, 117, 99, 116]⟩
def numW (t : Int) : ByteArray := ⟨(Lib.itoa t).toArray⟩
def headR (x : Rc) : List (List ByteArray) := [[recW, x.run, x.scp, x.stp, numW x.t], cmdW :: x.c]
def envR (l : List Vr) : List (List ByteArray) := l.map fun y => [envW, y.n, y.v]
def linesR (x : Rc) : List (List ByteArray) := headR x ++ envR x.v ++ x.m.map (lineE matW) ++ x.p.map (lineE prdW)
def encR (x : Rc) : Nat × List UInt8 := if rcB x = true then enc (linesR x) else (1, [])
def EncAns (x : Rc) (w : World) (e : Ending) (w' : World) : Prop := ∃ v, e = .returned (.tuple #[v, .int .i64 ((encR x).1 : Nat)]) ∧ Hid (w'.ownsRow w.heap.size 5 1 v (encR x).2.length (Lib.byteCells (encR x).2)) ∧ Below w.heap.size w w'
theorem wordsOf_appR (a b : List Ln) : wordsOf (a ++ b) = wordsOf a ++ wordsOf b := by simp [wordsOf]
theorem slice5R (w : World) (a b c d : ByteArray) : (Instr.buildSlice 27 5 #[(0, .string recW), (1, .string a), (2, .string b), (3, .string c), (4, .string d)]).run Tryz.prog w = .ok (.slice (some ⟨w.heap.size, 0, none⟩) 5 5) (w.alloc (.cells ([recW, a, b, c, d].map Value.string).toArray 9)) := by kernel_rfl
theorem slice1R (w : World) : (Instr.buildSlice 27 1 #[(0, .string cmdW)]).run Tryz.prog w = .ok (.slice (some ⟨w.heap.size, 0, none⟩) 1 1) (w.alloc (.cells ([cmdW].map Value.string).toArray 9)) := by kernel_rfl
theorem slice2R (g n : Nat) (sp : Option Addr) (m c : Nat) (w : World) : (Instr.buildSlice 59 2 #[(0, .slice (some ⟨g, 0, none⟩) n n), (1, .slice sp m c)]).run Tryz.prog w = .ok (.slice (some ⟨w.heap.size, 0, none⟩) 2 2) (w.alloc (.cells #[.slice (some ⟨g, 0, none⟩) n n, .slice sp m c] 27)) := by kernel_rfl
theorem lnsOwn_row {w : World} {g B : Nat} {ls : List Ln} {n : Nat} (hg : w.heap[g]? = some (.cells (ls.map Ln.val).toArray 27 (0, 0))) (hb : B ≤ g) (hn : ls.length = n) (hmax : n ≤ 1000) (hq : ∀ q ∈ ls, LnOwnL w B q) : LnsOwn w B (.slice (some ⟨g, 0, none⟩) n n) ls :=
 ⟨⟨by rw [List.length_map, Nat.mul_one], .inr ⟨g, n, _, by rw [hn], hb, hg, by omega, by unfold maxLen; omega, by simp [hn], by show (List.map Ln.val ls).take (ls.length * 1) = _; rw [Nat.mul_one]; exact List.take_of_length_le (by simp)⟩⟩, hq⟩
structure HeadIn (x : Rc) (B : Nat) (v : Value) (w : World) : Prop where
 h : ∃ ls, LnsOwn w B v ls ∧ ls.length = 2 ∧ wordsOf ls = headR x
theorem HeadIn.of {x : Rc} {B : Nat} {w : World} {g0 g5 : Nat} {sp : Option Addr} {cap : Nat} (h0 : w.heap[g0]? = some (.cells #[.slice (some ⟨g5, 0, none⟩) 5 5, .slice sp (1 + x.cn) cap] 27 (0, 0))) (hb0 : B ≤ g0)
 (h5 : w.heap[g5]? = some (.cells ([recW, x.run, x.scp, x.stp, numW x.t].map Value.string).toArray 9 (0, 0))) (hb5 : B ≤ g5) (h1 : LnOwnL w B ⟨sp, 1 + x.cn, cap, [cmdW] ++ x.c⟩) : HeadIn x B (.slice (some ⟨g0, 0, none⟩) 2 2) w := by
 refine ⟨[⟨some ⟨g5, 0, none⟩, 5, 5, [recW, x.run, x.scp, x.stp, numW x.t]⟩, ⟨sp, 1 + x.cn, cap, [cmdW] ++ x.c⟩], lnsOwn_row h0 hb0 rfl (by decide) fun q hq => ?_, rfl, rfl⟩
 rcases List.mem_cons.1 hq with rfl | hq
 ·exact lnOwn_row h5 hb5 rfl (by decide)
 ·obtain rfl := List.mem_singleton.1 hq
  exact h1
theorem LnOwnL.below {w w' : World} {b : Nat} {q : Ln} (h : LnOwnL w b q) (hb : Below w.heap.size w w') : LnOwnL w' b q := own_belowL h hb
theorem LnOwnL.le {w : World} {b : Nat} {q : Ln} (h : LnOwnL w b q) : q.n ≤ 9223372036854775807 := by
 rcases h.2 with ⟨e, h0⟩ | ⟨g, cap, cur, e, _, _, h1, h2, _⟩
 ·omega
 ·unfold maxLen at h2; omega
theorem RcBox.belowB {x : Rc} {w w1 w2 : World} {D : Nat} (h : RcBox x w w1) (h0 : RcIn x w) (hb : Below D w1 w2) (hD : w.heap.size < D) : RcBox x w w2 :=
 ⟨(hb.block _ hD).trans h.r, h0.below (h.b.trans (hb.mono (Nat.le_of_lt hD))), h.b.trans (hb.mono (Nat.le_of_lt hD))⟩
theorem encR_no {x : Rc} (h : rcB x = false) : encR x = (1, []) := by unfold encR; rw [if_neg (by rw [h]; simp)]
theorem encR_yes {x : Rc} (h : rcB x = true) : encR x = enc (linesR x) := by unfold encR; rw [if_pos h]
theorem envR_snoc {l : List Vr} {k : Nat} {y : Vr} (h : l[k]? = some y) : envR (l.take (k + 1)) = envR (l.take k) ++ [[envW, y.n, y.v]] := by
 unfold envR; rw [List.take_add_one, h, List.map_append]; rfl
theorem encodeR_any (x : Rc) (w : World) (hx : RcIn x w) (ht : Lib.TabIs Tryz.prog w "internal/strconv.uint64pow10" .u64 Lib.pow10Tab) (hg : 1 < w.heap.size) :
 Calls Tryz.prog 13 #[.agg x.L.toArray] w (EncAns x w) := by
 have HX := zh (RcBox.new hx); have HX0 := zh hx
 have HT := zh ht
 have HCB : Hid (x.cn ≤ 1000) := hx.b.2.2.2.1
 have HVB : Hid (x.vn ≤ 1000) := hx.b.2.2.2.2.1
 have HMB : Hid (x.mn ≤ 1000) := hx.b.2.2.2.2.2.1
 have HPB : Hid (x.pn ≤ 1000) := hx.b.2.2.2.2.2.2
 have HTB := zh hx.t
 clear hx
 go_enter Tryz.func13, Tryz.ntmps13
 go_upto_region 1 with fail
 generalize hw0 : World.alloc w _ = w0
 have HB0 : Hid (RcBox x w w0) := by rw [← hw0]; exact HX.out
 clear hw0 HX
 go_wp2_with (refine wpList_load_row rfl 31 _ rfl w.heap.size rfl 31 _ (0, 0) _ HB0.out.r Tryz.underlying31 rfl (infoRcA x) ?_)
 refine (validR_any x w0 HB0.out.i).mono ?_
 rintro e w1 ⟨rfl, hb⟩
 have HB1 : Hid (RcBox x w w1) := HB0.out.below hb
 clear hb HB0
 cases hrc : rcB x
 ·have HE := zh (encR_no hrc)
  go_wp2_with fail
  go_ret2
  refine ⟨.slice none 0 0, by rw [HE.out]; rfl, ?_, HB1.out.b⟩
  rw [HE.out]; exact World.ownsRow_nil _ _ _ _
 have HE := zh (encR_yes hrc)
 clear hrc
 have HCN : Hid (∀ w', Below w1.heap.size w1 w' → Calls Tryz.prog 39 #[.int .i64 x.t] w' fun e w'' => e = .returned (.string (numW x.t)) ∧ Below w'.heap.size w' w'') := fun w' hb =>
  Number_any x.t HTB.out.1 HTB.out.2 w' (tabIs_belowR HT.out (HB1.out.b.trans (hb.mono (Nat.le_of_lt HB1.out.lt))) hg)
 clear HT
 obtain ⟨B, hBe⟩ : ∃ B, B = w1.heap.size := ⟨_, rfl⟩
 have HSw1 : Hid (Blks B w1 w1 []) := Blks.start (Below.refl _ _) (Nat.le_of_eq hBe)
 rw [← hBe] at HCN
 have HLT : Hid (w.heap.size < B) := by show _ < _; rw [hBe]; exact HB1.out.lt
 have HBX : Hid (∀ w', Below B w1 w' → RcBox x w w') := fun w' hb => HB1.out.belowB HX0.out hb HLT.out
 have HBe := zh hBe
 clear hBe ht hg
 go_upto_region 3 with fail
 go_cut [4] (fun s4 wx => ∃ g, s4 = .slice (some ⟨g, 0, none⟩) 2 2 ∧ Hid (HeadIn x B (.slice (some ⟨g, 0, none⟩) 2 2) wx ∧ Below B w1 wx))
 case first =>
  as_aux_lemma =>
   refine wp_region_held_drew (S := fun w' => Below B w1 w') (by kernel_rfl) HSw1.out.b.drew (fun hHeld => ?_)
   refine zv 0 rfl ?_
   refine zx 1 rfl (v := ?_) ?_ ?_; rotate_left
   ·intro w' hSw; have k1 := (HBX.out w' hSw).c0; go_simp; try with_reducible rfl
   refine zv 2 rfl ?_
   refine zx 3 rfl (v := ?_) ?_ ?_; rotate_left
   ·intro w' hSw; have k1 := (HBX.out w' hSw).c1; go_simp; try with_reducible rfl
   refine zv 4 rfl ?_
   refine zx 5 rfl (v := ?_) ?_ ?_; rotate_left
   ·intro w' hSw; have k1 := (HBX.out w' hSw).c2; go_simp; try with_reducible rfl
   refine zv 6 rfl ?_
   refine zx 7 rfl (v := ?_) ?_ ?_; rotate_left
   ·intro w' hSw; have k1 := (HBX.out w' hSw).c3; go_simp; try with_reducible rfl
   refine zv 11 rfl ?_
   refine zx 12 rfl (v := ?_) ?_ ?_; rotate_left
   ·intro w' hSw; have k1 := (HBX.out w' hSw).c4; go_simp; try with_reducible rfl
   refine zs 8 10 rfl (fun K hK => ?_) rfl (fun K hK => ?_)
   ·go_simp
    with_reducible refine (HCN.out _ (HSw1.out.drew).b).mono ?_
    rintro e v1 ⟨rfl, hb⟩
    have HSv1 := zh (HSw1.out.call ((Below.refl _ _).drew.trans hb))
    clear hb
    go_wp2_with fail
    refine hK.out _ _ HSv1.out.b fun _ => ?_; clear hK K
    refine zs 9 10 rfl (fun K hK => ?_) rfl (fun K hK => ?_)
    ·first | (rw [if_pos (by rfl)]; refine wp_slice_eqR 27 5 [(0, .const (.string ⟨#[114, 101, 99, 111, 114, 100]⟩)), (1, .tmp 11), (2, .tmp 13), (3, .tmp 15), (4, .tmp 18)] rfl [(0, .string recW), (1, .string x.run), (2, .string x.scp), (3, .string x.stp), (4, .string (numW x.t))] rfl _ _ (slice5R _ _ _ _ _) ?_) | skip
     obtain ⟨g5, v2, hg, hw, HSv2, HEv2⟩ := HSv1.out.allocd (.cells ([recW, x.run, x.scp, x.stp, numW x.t].map Value.string).toArray 9 (0, 0))
     go_simp
     try rw [hg]
     generalize hq : World.alloc v1 _ = q
     obtain rfl : v2 = q := hw.symm.trans hq
     clear hg hw hq
     refine hK.out _ _ HSv2.out.b fun _ => ?_; clear hK K
     refine zr 10 rfl (fun K hK => ?_)
     first | (rw [if_pos (by rfl)]; refine wp_slice_eqR 27 1 [(0, .const (.string ⟨#[99, 111, 109, 109, 97, 110, 100]⟩))] rfl [(0, .string cmdW)] rfl _ _ (slice1R _) ?_) | skip
     obtain ⟨g1, v3, hg, hw, HSv3, HEv3⟩ := HSv2.out.allocd (.cells ([cmdW].map Value.string).toArray 9 (0, 0))
     go_simp
     try rw [hg]
     generalize hq : World.alloc v2 _ = q
     obtain rfl : v3 = q := hw.symm.trans hq
     clear hg hw hq
     refine hK.out _ _ HSv3.out.b fun _ => ?_; clear hK K
     refine zr 13 rfl (fun K hK => ?_)
     rw [if_pos (by rfl)]
     refine wp_append_wdsR _ _ rfl B g1 [cmdW] 1 rfl (by decide) rfl (HSv3.out.at 0 rfl) (HSv3.out.lt 0 rfl).1 HSv3.out.k _ x.c1 x.cn x.cc x.c rfl (HBX.out _ HSv3.out.b).i.c HCB.out ?_
     intro sp1 cap1 v4 HOv4 HG
     have HSv4 := zh (HSv3.out.growR 0 rfl HG.out)
     clear HG
     refine hK.out _ _ HSv4.out.b fun _ => ?_; clear hK K
     refine zr 14 rfl (fun K hK => ?_)
     first | (rw [if_pos (by rfl)]; refine wp_slice_eqR 59 2 [(0, .tmp 19), (1, .tmp 23)] rfl [(0, .slice (some ⟨g5, 0, none⟩) 5 5), (1, .slice sp1 (1 + x.cn) cap1)] rfl _ _ (slice2R _ _ _ _ _ _) ?_) | skip
     obtain ⟨g0, v5, hg, hw, HSv5, HEv5⟩ := HSv4.out.allocd (.cells #[.slice (some ⟨g5, 0, none⟩) 5 5, .slice sp1 (1 + x.cn) cap1] 27 (0, 0))
     go_simp
     try rw [hg]
     generalize hq : World.alloc v4 _ = q
     obtain rfl : v5 = q := hw.symm.trans hq
     clear hg hw hq
     have HOv5 := zh (HOv4.out.below HEv5.out)
     refine hK.out _ _ HSv5.out.b fun _ => ?_; clear hK K
     refine zv 15 rfl ?_
     refine zd ?_ _
     go_wp2_with fail
     go_meet
     exact ⟨g0, rfl, HeadIn.of (HSv5.out.at 0 rfl) (HSv5.out.lt 0 rfl).1 (HSv5.out.at 1 rfl) (HSv5.out.lt 1 rfl).1 HOv5.out, HSv5.out.b⟩
    ·first | (rw [if_pos (by rfl)]; refine wp_slice_eqR 27 1 [(0, .const (.string ⟨#[99, 111, 109, 109, 97, 110, 100]⟩))] rfl [(0, .string cmdW)] rfl _ _ (slice1R _) ?_) | skip
     obtain ⟨g1, v2, hg, hw, HSv2, HEv2⟩ := HSv1.out.allocd (.cells ([cmdW].map Value.string).toArray 9 (0, 0))
     go_simp
     try rw [hg]
     generalize hq : World.alloc v1 _ = q
     obtain rfl : v2 = q := hw.symm.trans hq
     clear hg hw hq
     refine hK.out _ _ HSv2.out.b fun _ => ?_; clear hK K
     refine zs 9 13 rfl (fun K hK => ?_) rfl (fun K hK => ?_)
     ·first | (rw [if_pos (by rfl)]; refine wp_slice_eqR 27 5 [(0, .const (.string ⟨#[114, 101, 99, 111, 114, 100]⟩)), (1, .tmp 11), (2, .tmp 13), (3, .tmp 15), (4, .tmp 18)] rfl [(0, .string recW), (1, .string x.run), (2, .string x.scp), (3, .string x.stp), (4, .string (numW x.t))] rfl _ _ (slice5R _ _ _ _ _) ?_) | skip
      obtain ⟨g5, v3, hg, hw, HSv3, HEv3⟩ := HSv2.out.allocd (.cells ([recW, x.run, x.scp, x.stp, numW x.t].map Value.string).toArray 9 (0, 0))
      go_simp
      try rw [hg]
      generalize hq : World.alloc v2 _ = q
      obtain rfl : v3 = q := hw.symm.trans hq
      clear hg hw hq
      refine hK.out _ _ HSv3.out.b fun _ => ?_; clear hK K
      refine zr 13 rfl (fun K hK => ?_)
      rw [if_pos (by rfl)]
      refine wp_append_wdsR _ _ rfl B g1 [cmdW] 1 rfl (by decide) rfl (HSv3.out.at 1 rfl) (HSv3.out.lt 1 rfl).1 HSv3.out.k _ x.c1 x.cn x.cc x.c rfl (HBX.out _ HSv3.out.b).i.c HCB.out ?_
      intro sp1 cap1 v4 HOv4 HG
      have HSv4 := zh (HSv3.out.growR 1 rfl HG.out)
      clear HG
      refine hK.out _ _ HSv4.out.b fun _ => ?_; clear hK K
      refine zr 14 rfl (fun K hK => ?_)
      first | (rw [if_pos (by rfl)]; refine wp_slice_eqR 59 2 [(0, .tmp 19), (1, .tmp 23)] rfl [(0, .slice (some ⟨g5, 0, none⟩) 5 5), (1, .slice sp1 (1 + x.cn) cap1)] rfl _ _ (slice2R _ _ _ _ _ _) ?_) | skip
      obtain ⟨g0, v5, hg, hw, HSv5, HEv5⟩ := HSv4.out.allocd (.cells #[.slice (some ⟨g5, 0, none⟩) 5 5, .slice sp1 (1 + x.cn) cap1] 27 (0, 0))
      go_simp
      try rw [hg]
      generalize hq : World.alloc v4 _ = q
      obtain rfl : v5 = q := hw.symm.trans hq
      clear hg hw hq
      have HOv5 := zh (HOv4.out.below HEv5.out)
      refine hK.out _ _ HSv5.out.b fun _ => ?_; clear hK K
      refine zv 15 rfl ?_
      refine zd ?_ _
      go_wp2_with fail
      go_meet
      exact ⟨g0, rfl, HeadIn.of (HSv5.out.at 0 rfl) (HSv5.out.lt 0 rfl).1 (HSv5.out.at 1 rfl) (HSv5.out.lt 1 rfl).1 HOv5.out, HSv5.out.b⟩
     ·rw [if_pos (by rfl)]
      refine wp_append_wdsR _ _ rfl B g1 [cmdW] 1 rfl (by decide) rfl (HSv2.out.at 0 rfl) (HSv2.out.lt 0 rfl).1 HSv2.out.k _ x.c1 x.cn x.cc x.c rfl (HBX.out _ HSv2.out.b).i.c HCB.out ?_
      intro sp1 cap1 v3 HOv3 HG
      have HSv3 := zh (HSv2.out.growR 0 rfl HG.out)
      clear HG
      refine hK.out _ _ HSv3.out.b fun _ => ?_; clear hK K
      refine zr 9 rfl (fun K hK => ?_)
      first | (rw [if_pos (by rfl)]; refine wp_slice_eqR 27 5 [(0, .const (.string ⟨#[114, 101, 99, 111, 114, 100]⟩)), (1, .tmp 11), (2, .tmp 13), (3, .tmp 15), (4, .tmp 18)] rfl [(0, .string recW), (1, .string x.run), (2, .string x.scp), (3, .string x.stp), (4, .string (numW x.t))] rfl _ _ (slice5R _ _ _ _ _) ?_) | skip
      obtain ⟨g5, v4, hg, hw, HSv4, HEv4⟩ := HSv3.out.allocd (.cells ([recW, x.run, x.scp, x.stp, numW x.t].map Value.string).toArray 9 (0, 0))
      go_simp
      try rw [hg]
      generalize hq : World.alloc v3 _ = q
      obtain rfl : v4 = q := hw.symm.trans hq
      clear hg hw hq
      have HOv4 := zh (HOv3.out.below HEv4.out)
      refine hK.out _ _ HSv4.out.b fun _ => ?_; clear hK K
      refine zr 14 rfl (fun K hK => ?_)
      first | (rw [if_pos (by rfl)]; refine wp_slice_eqR 59 2 [(0, .tmp 19), (1, .tmp 23)] rfl [(0, .slice (some ⟨g5, 0, none⟩) 5 5), (1, .slice sp1 (1 + x.cn) cap1)] rfl _ _ (slice2R _ _ _ _ _ _) ?_) | skip
      obtain ⟨g0, v5, hg, hw, HSv5, HEv5⟩ := HSv4.out.allocd (.cells #[.slice (some ⟨g5, 0, none⟩) 5 5, .slice sp1 (1 + x.cn) cap1] 27 (0, 0))
      go_simp
      try rw [hg]
      generalize hq : World.alloc v4 _ = q
      obtain rfl : v5 = q := hw.symm.trans hq
      clear hg hw hq
      have HOv5 := zh (HOv4.out.below HEv5.out)
      refine hK.out _ _ HSv5.out.b fun _ => ?_; clear hK K
      refine zv 15 rfl ?_
      refine zd ?_ _
      go_wp2_with fail
      go_meet
      exact ⟨g0, rfl, HeadIn.of (HSv5.out.at 0 rfl) (HSv5.out.lt 0 rfl).1 (HSv5.out.at 1 rfl) (HSv5.out.lt 1 rfl).1 HOv5.out, HSv5.out.b⟩
   ·first | (rw [if_pos (by rfl)]; refine wp_slice_eqR 27 1 [(0, .const (.string ⟨#[99, 111, 109, 109, 97, 110, 100]⟩))] rfl [(0, .string cmdW)] rfl _ _ (slice1R _) ?_) | skip
    obtain ⟨g1, v1, hg, hw, HSv1, HEv1⟩ := HSw1.out.allocdD (.cells ([cmdW].map Value.string).toArray 9 (0, 0))
    go_simp
    try rw [hg]
    generalize hq : World.drew (World.alloc w1 _) = q
    obtain rfl : v1 = q := hw.symm.trans hq
    clear hg hw hq
    refine hK.out _ _ HSv1.out.b fun _ => ?_; clear hK K
    refine zr 8 rfl (fun K hK => ?_)
    go_simp
    with_reducible refine (HCN.out _ (HSv1.out).b).mono ?_
    rintro e v2 ⟨rfl, hb⟩
    have HSv2 := zh (HSv1.out.call hb)
    clear hb
    go_wp2_with fail
    refine hK.out _ _ HSv2.out.b fun _ => ?_; clear hK K
    refine zs 9 13 rfl (fun K hK => ?_) rfl (fun K hK => ?_)
    ·first | (rw [if_pos (by rfl)]; refine wp_slice_eqR 27 5 [(0, .const (.string ⟨#[114, 101, 99, 111, 114, 100]⟩)), (1, .tmp 11), (2, .tmp 13), (3, .tmp 15), (4, .tmp 18)] rfl [(0, .string recW), (1, .string x.run), (2, .string x.scp), (3, .string x.stp), (4, .string (numW x.t))] rfl _ _ (slice5R _ _ _ _ _) ?_) | skip
     obtain ⟨g5, v3, hg, hw, HSv3, HEv3⟩ := HSv2.out.allocd (.cells ([recW, x.run, x.scp, x.stp, numW x.t].map Value.string).toArray 9 (0, 0))
     go_simp
     try rw [hg]
     generalize hq : World.alloc v2 _ = q
     obtain rfl : v3 = q := hw.symm.trans hq
     clear hg hw hq
     refine hK.out _ _ HSv3.out.b fun _ => ?_; clear hK K
     refine zr 13 rfl (fun K hK => ?_)
     rw [if_pos (by rfl)]
     refine wp_append_wdsR _ _ rfl B g1 [cmdW] 1 rfl (by decide) rfl (HSv3.out.at 1 rfl) (HSv3.out.lt 1 rfl).1 HSv3.out.k _ x.c1 x.cn x.cc x.c rfl (HBX.out _ HSv3.out.b).i.c HCB.out ?_
     intro sp1 cap1 v4 HOv4 HG
     have HSv4 := zh (HSv3.out.growR 1 rfl HG.out)
     clear HG
     refine hK.out _ _ HSv4.out.b fun _ => ?_; clear hK K
     refine zr 14 rfl (fun K hK => ?_)
     first | (rw [if_pos (by rfl)]; refine wp_slice_eqR 59 2 [(0, .tmp 19), (1, .tmp 23)] rfl [(0, .slice (some ⟨g5, 0, none⟩) 5 5), (1, .slice sp1 (1 + x.cn) cap1)] rfl _ _ (slice2R _ _ _ _ _ _) ?_) | skip
     obtain ⟨g0, v5, hg, hw, HSv5, HEv5⟩ := HSv4.out.allocd (.cells #[.slice (some ⟨g5, 0, none⟩) 5 5, .slice sp1 (1 + x.cn) cap1] 27 (0, 0))
     go_simp
     try rw [hg]
     generalize hq : World.alloc v4 _ = q
     obtain rfl : v5 = q := hw.symm.trans hq
     clear hg hw hq
     have HOv5 := zh (HOv4.out.below HEv5.out)
     refine hK.out _ _ HSv5.out.b fun _ => ?_; clear hK K
     refine zv 15 rfl ?_
     refine zd ?_ _
     go_wp2_with fail
     go_meet
     exact ⟨g0, rfl, HeadIn.of (HSv5.out.at 0 rfl) (HSv5.out.lt 0 rfl).1 (HSv5.out.at 1 rfl) (HSv5.out.lt 1 rfl).1 HOv5.out, HSv5.out.b⟩
    ·rw [if_pos (by rfl)]
     refine wp_append_wdsR _ _ rfl B g1 [cmdW] 1 rfl (by decide) rfl (HSv2.out.at 0 rfl) (HSv2.out.lt 0 rfl).1 HSv2.out.k _ x.c1 x.cn x.cc x.c rfl (HBX.out _ HSv2.out.b).i.c HCB.out ?_
     intro sp1 cap1 v3 HOv3 HG
     have HSv3 := zh (HSv2.out.growR 0 rfl HG.out)
     clear HG
     refine hK.out _ _ HSv3.out.b fun _ => ?_; clear hK K
     refine zr 9 rfl (fun K hK => ?_)
     first | (rw [if_pos (by rfl)]; refine wp_slice_eqR 27 5 [(0, .const (.string ⟨#[114, 101, 99, 111, 114, 100]⟩)), (1, .tmp 11), (2, .tmp 13), (3, .tmp 15), (4, .tmp 18)] rfl [(0, .string recW), (1, .string x.run), (2, .string x.scp), (3, .string x.stp), (4, .string (numW x.t))] rfl _ _ (slice5R _ _ _ _ _) ?_) | skip
     obtain ⟨g5, v4, hg, hw, HSv4, HEv4⟩ := HSv3.out.allocd (.cells ([recW, x.run, x.scp, x.stp, numW x.t].map Value.string).toArray 9 (0, 0))
     go_simp
     try rw [hg]
     generalize hq : World.alloc v3 _ = q
     obtain rfl : v4 = q := hw.symm.trans hq
     clear hg hw hq
     have HOv4 := zh (HOv3.out.below HEv4.out)
     refine hK.out _ _ HSv4.out.b fun _ => ?_; clear hK K
     refine zr 14 rfl (fun K hK => ?_)
     first | (rw [if_pos (by rfl)]; refine wp_slice_eqR 59 2 [(0, .tmp 19), (1, .tmp 23)] rfl [(0, .slice (some ⟨g5, 0, none⟩) 5 5), (1, .slice sp1 (1 + x.cn) cap1)] rfl _ _ (slice2R _ _ _ _ _ _) ?_) | skip
     obtain ⟨g0, v5, hg, hw, HSv5, HEv5⟩ := HSv4.out.allocd (.cells #[.slice (some ⟨g5, 0, none⟩) 5 5, .slice sp1 (1 + x.cn) cap1] 27 (0, 0))
     go_simp
     try rw [hg]
     generalize hq : World.alloc v4 _ = q
     obtain rfl : v5 = q := hw.symm.trans hq
     clear hg hw hq
     have HOv5 := zh (HOv4.out.below HEv5.out)
     refine hK.out _ _ HSv5.out.b fun _ => ?_; clear hK K
     refine zv 15 rfl ?_
     refine zd ?_ _
     go_wp2_with fail
     go_meet
     exact ⟨g0, rfl, HeadIn.of (HSv5.out.at 0 rfl) (HSv5.out.lt 0 rfl).1 (HSv5.out.at 1 rfl) (HSv5.out.lt 1 rfl).1 HOv5.out, HSv5.out.b⟩
 case rest =>
 obtain ⟨g, rfl, HQ⟩ := hcut
 obtain ⟨w2, hw2⟩ : ∃ w2, w2 = wc := ⟨_, rfl⟩
 subst hw2
 have HB2 : Hid (RcBox x w w2) := HBX.out w2 HQ.out.2
 have HK2 : Hid (B ≤ w2.heap.size) := by show _ ≤ _; have := HQ.out.2.size; have := HBe.out; omega
 have HH2 := zh HQ.out.1
 clear HSw1 HCN HBX HQ HB1 HBe
 have c5 := HB2.out.c5
 go_wp2_with fail
 clear c5
 go_loopw [4, 28] (fun v i wr => ∃ (k : Nat) (sp : Option Addr) (cap : Nat) (ls : List Ln), k ≤ x.vn ∧ v = .slice sp (2 + k) cap ∧ i = .int .i64 k ∧ Hid (LnsOwn wr B (.slice sp (2 + k) cap) ls ∧ ls.length = 2 + k ∧ wordsOf ls = headR x ++ envR (x.v.take k)) ∧ Hid (RcBox x w wr) ∧ Hid (B ≤ wr.heap.size)) (fun _ i _ => x.vn - (intOf i).toNat)
 case atStart =>
  obtain ⟨ls, h1, h2, h3⟩ := HH2.out.h
  exact ⟨0, _, _, ls, Nat.zero_le _, rfl, rfl, ⟨h1, h2, by rw [h3]; simp [envR]⟩, HB2.out, HK2.out⟩
 case round =>
  clear HH2 HB2 HK2
  obtain ⟨k, sp0, cap0, ls0, hk, rfl, rfl, HLS, HB, HK⟩ := hrel
  have hvb : x.vn ≤ 1000 := HVB.out
  by_cases hlt : k < x.vn
  ·have hd : decide ((k : Int) < (x.vn : Int)) = true := by simp; omega
   obtain ⟨b, off, hv1, hbB, hcap, hr⟩ := HB.out.i.v.cells (by omega)
   rw [hv1]
   have hkl : k < x.v.length := by rw [HB.out.i.v.len]; exact hlt
   obtain ⟨y, hy⟩ : ∃ y, x.v[k]? = some y := ⟨x.v[k], List.getElem?_eq_getElem hkl⟩
   have HR := zh (hr k y hy)
   have HI := zh (infoVr y); have HIA := zh (infoVrA y)
   have p1 : (0 : Int) ≤ (k : Int) := by omega
   have p2 : (k : Int) < (x.vn : Int) := by omega
   have HYY := zh hy
   clear hkl hr hy hv1 hbB hcap
   go_upto_region 7 with (first
    | (refine wpList_load_mid rfl 61 _ rfl b (off + k * 2) rfl _ _ HR.out Tryz.underlying61 rfl HI.out ?_)
    | (refine wpList_store_row rfl 61 _ _ rfl wr.heap.size (vrL y).toArray rfl rfl 61 _ (heap_alloc_new wr _) HIA.out rfl (oneVr y) ?_; rw [setRow_new]))
   generalize hw3 : World.alloc wr _ = w3
   have hb3 : Below wr.heap.size wr w3 := by rw [← hw3]; exact (Below.refl _ _).alloc (Nat.le_refl _) _
   have hrow : w3.heap[wr.heap.size]? = some (.cells (vrL y).toArray 61 (0, 0)) := by rw [← hw3]; exact heap_alloc_new _ _
   have HB3 : Hid (RcBox x w w3) := HB.out.below hb3
   have HK3 : Hid (B ≤ w3.heap.size) := Nat.le_trans HK.out hb3.size
   have k1 := heap_cellR hrow (L := vrL y) (j := 0) rfl
   have k2 := heap_cellR hrow (L := vrL y) (j := 1) rfl
   have HEL := zh (EvL.new (HLS.out.1.below hb3) HK3.out y.n y.v)
   have HLN := zh HLS.out.2.1
   have HWD : Hid (∀ q : Ln, q.l = [envW, y.n, y.v] → wordsOf (ls0 ++ [q]) = headR x ++ envR (x.v.take (k + 1))) := fun q hq => by
    rw [wordsOf_appR, HLS.out.2.2, envR_snoc HYY.out, List.append_assoc]; simp [wordsOf, hq]
   clear hw3 hb3 hrow HLS HB HK HR HI HIA
   go_wp2_with (refine wpList_plain rfl fun _ hK => wp_append_lns _ _ rfl B _ ls0 (2 + k) HLN.out.symm rfl HEL.out.o _ _ rfl HEL.out.c HEL.out.y (by have := HVB.out; omega) HEL.out.k (fun sp' cap' w5 HL5 HBB HGR => hK _ _ ?_))
   have HB5 : Hid (RcBox x w w5) := (HB3.out.below HEL.out.b).belowB HX0.out HBB.out HLT.out
   have HK5 : Hid (B ≤ w5.heap.size) := Nat.le_trans HEL.out.k HBB.out.size
   have HWD2 := zh (HWD.out ⟨some ⟨w3.heap.size, 0, none⟩, 3, 3, [envW, y.n, y.v]⟩ rfl)
   have HLL : Hid ((ls0 ++ [(⟨some ⟨w3.heap.size, 0, none⟩, 3, 3, [envW, y.n, y.v]⟩ : Ln)]).length = 2 + (k + 1)) := by show _ = _; rw [List.length_append, HLN.out]; rfl
   clear HEL HBB HGR HB3 HK3 k1 k2 HWD HLN
   go_wp2_with fail
   go_roundw
   case rel => exact ⟨k + 1, sp', cap', _, by omega, rfl, by go_num, ⟨HL5.out, HLL.out, HWD2.out⟩, HB5.out, HK5.out⟩
   case measure => simp [intOf]; omega
  ·obtain rfl : k = x.vn := by omega
   have hd : decide ((x.vn : Int) < (x.vn : Int)) = false := by simp
   have HLwr := zh HLS.out.1
   have HLNw := zh HLS.out.2.1
   have HWw : Hid (wordsOf ls0 = headR x ++ envR x.v) := by
    show _ = _
    rw [HLS.out.2.2, List.take_of_length_le (by rw [HB.out.i.v.len]; exact Nat.le_refl _)]
   have HNL6 : Hid (ls0.length ≤ 2000) := by show _ ≤ _; rw [HLNw.out]; have := HVB.out; omega
   have HN6 : Hid (x.mn ≤ 100000) := by show _ ≤ _; have := HMB.out; omega
   have HN7 : Hid (x.pn ≤ 100000) := by show _ ≤ _; have := HPB.out; omega
   have HBwr := HB; have HKwr := HK
   clear HLS HB HK
   have c6 := HBwr.out.c6
   go_wp2_with fail
   refine (Lines_any _ x.m1 x.mn x.mc x.m wr HBwr.out.i.m HN6.out).mono ?_
   rintro e w3 ⟨sq6, cq6, lq6, rfl, hq6, hw6, ho6, hb⟩
   have HBw3 : Hid (RcBox x w w3) := HBwr.out.below hb
   have HLw3 := zh (HLwr.out.below hb)
   have HO6 := zh (ho6.lower (show B ≤ wr.heap.size from HKwr.out))
   have HKw3 : Hid (B ≤ w3.heap.size) := Nat.le_trans HKwr.out hb.size
   have HQ6 := zh hq6; have HW6 := zh hw6
   clear hb ho6 hq6 hw6 c6 HBwr HLwr HKwr
   go_wp2_with (refine wpList_plain rfl fun _ hK => wp_append_lnsR _ _ rfl B _ ls0 rfl HLw3.out sq6 x.mn cq6 lq6 HQ6.out rfl HO6.out (by have := HNL6.out; omega) (by have := HN6.out; omega) HKw3.out (fun sp6' cap6' w4 HLw4 HBB6 => hK _ _ ?_); have HBw4 : Hid (RcBox x w w4) := HBw3.out.belowB HX0.out HBB6.out HLT.out; have c7 := HBw4.out.c7)
   have HKw4 : Hid (B ≤ w4.heap.size) := Nat.le_trans HKw3.out HBB6.out.size
   clear HBB6 HBw3 HLw3 HKw3 HO6
   have HNL7 : Hid ((ls0 ++ lq6).length ≤ 4000) := by show _ ≤ _; rw [List.length_append, HQ6.out]; have := HNL6.out; have := HMB.out; omega
   refine (Lines_any _ x.p1 x.pn x.pc x.p w4 HBw4.out.i.p HN7.out).mono ?_
   rintro e w5 ⟨sq7, cq7, lq7, rfl, hq7, hw7, ho7, hb⟩
   have HBw5 : Hid (RcBox x w w5) := HBw4.out.below hb
   have HLw5 := zh (HLw4.out.below hb)
   have HO7 := zh (ho7.lower (show B ≤ w4.heap.size from HKw4.out))
   have HKw5 : Hid (B ≤ w5.heap.size) := Nat.le_trans HKw4.out hb.size
   have HQ7 := zh hq7; have HW7 := zh hw7
   clear hb ho7 hq7 hw7 c7 HBw4 HLw4 HKw4
   go_wp2_with (refine wpList_plain rfl fun _ hK => wp_append_lnsR _ _ rfl B _ (ls0 ++ lq6) rfl HLw5.out sq7 x.pn cq7 lq7 HQ7.out rfl HO7.out (by have := HNL7.out; omega) (by have := HN7.out; omega) HKw5.out (fun sp7' cap7' w6 HLw6 HBB7 => hK _ _ ?_); have HBw6 : Hid (RcBox x w w6) := HBw5.out.belowB HX0.out HBB7.out HLT.out)
   have HKw6 : Hid (B ≤ w6.heap.size) := Nat.le_trans HKw5.out HBB7.out.size
   clear HBB7 HBw5 HLw5 HKw5 HO7
   have HWE : Hid (wordsOf ((ls0 ++ lq6) ++ lq7) = linesR x) := by
    show _ = _
    rw [wordsOf_appR, wordsOf_appR, HWw.out, HW6.out, HW7.out]; rfl
   have hll : ((ls0 ++ lq6) ++ lq7).length = (ls0 ++ lq6).length + x.pn := by rw [List.length_append, HQ7.out]
   go_wp2_with fail
   have HLI : Hid (LinesIn w6 w6.heap.size sp7' (ls0.length + lq6.length + x.pn) ((ls0 ++ lq6) ++ lq7)) := by show LinesIn _ _ _ _ _; rw [← List.length_append]; exact HLw6.out.lines hll
   refine (Encode_any _ _ _ _ w6 HLI.out (by have h1 := HNL7.out; have h2 := HN7.out; rw [List.length_append] at h1; omega) (fun q hq => (HLw6.out.each q hq).le)).mono ?_
   rintro e w7 ⟨v, rfl, hown, hb⟩
   rw [HWE.out] at hown ⊢
   have HO : Hid (w7.ownsRow w.heap.size 5 1 v (enc (linesR x)).2.length (Lib.byteCells (enc (linesR x)).2)) := own_lower hown.out HBw6.out.b.size
   have HB7 : Hid (Below w.heap.size w w7) := HBw6.out.b.trans (hb.mono HBw6.out.b.size)
   clear hown hb
   go_wp2_with fail
   go_ret2
   exact ⟨v, by rw [HE.out]; rfl, by rw [HE.out]; exact HO, HB7.out⟩
end Go.Proofs.YtecllfbadciaoaaGreatDoor
