/-
  Lines of a record: what is appended to them (conditions in each theorem).
-/
import Derived.Test.YtecllfbadciaoaaGreatDoorZip
import Derived.Test.YtecllfbadciaoaaGreatDoorQ17
set_option maxRecDepth 100000
set_option maxHeartbeats 8000000
namespace Go.Proofs.YtecllfbadciaoaaGreatDoor
open Go.RowKit
theorem lnOwn_row {w : World} {g B n : Nat} {l : List ByteArray} (hg : w.heap[g]? = some (.cells (l.map Value.string).toArray 9 (0, 0))) (hb : B ≤ g) (hn : l.length = n) (hmax : n ≤ 1000) : LnOwnL w B ⟨some ⟨g, 0, none⟩, n, n, l⟩ :=
 ⟨by rw [List.length_map, hn, Nat.mul_one], .inr ⟨g, n, _, rfl, hb, hg, Nat.le_refl _, by unfold maxLen; omega, by simp [hn], by show (List.map Value.string l).take (n * 1) = _; rw [Nat.mul_one]; exact List.take_of_length_le (by simp [hn])⟩⟩
theorem LnOwnL.lower {w : World} {b b' : Nat} {q : Ln} (h : LnOwnL w b q) (hb : b' ≤ b) : LnOwnL w b' q := own_lower h hb
theorem LnsOwn.lower {w : World} {b b' : Nat} {v : Value} {l : List Ln} (h : LnsOwn w b v l) (hb : b' ≤ b) : LnsOwn w b' v l := ⟨own_lower h.row hb, fun q hq => (h.each q hq).lower hb⟩
theorem wp_append_wdsR {o : Oper} {a : Act} {w : World} {K : Act → World → Prop} {Q : Exit → Act → World → Prop} (s x : Operand)
 (ho : o.op = .call { callee := .builtin .append, args := #[s, x], argTypes := #[27, 27] }) (B g : Nat) (l0 : List ByteArray) (n0 : Nat) (hn0 : l0.length = n0) (h01 : n0 ≤ 1000) (hs : a.eval s = .slice (some ⟨g, 0, none⟩) n0 n0)
 (hg : w.heap[g]? = some (.cells (l0.map Value.string).toArray 9 (0, 0))) (hB : B ≤ g) (hBw : B ≤ w.heap.size) (Bx : Nat) (pa : Option Addr) (np ncap : Nat) (l : List ByteArray) (hx : a.eval x = .slice pa np ncap) (hsrc : StrsIn w Bx pa np l) (hmax : np ≤ 1000)
 (h : ∀ sp cap w', Hid (LnOwnL w' B ⟨sp, n0 + np, cap, l0 ++ l⟩) → Hid (w.grownBy w' (some g)) → K (a.put o.dst (.slice sp (n0 + np) cap)) w') : o.wp Tryz.prog a w K Q := by
 have hrow := lnOwn_row hg hB hn0 h01
 obtain ⟨i0, hi0, hz0, hz1, hz2⟩ := info_parts infoStrS
 by_cases h0 : np = 0
 ·subst h0
  have hl : l = [] := List.eq_nil_of_length_eq_zero hsrc.len
  subst hl
  have hrun : (Builtin.append_ #[27, 27] o.type #[.slice (some ⟨g, 0, none⟩) n0 n0, .slice pa 0 ncap]).run Tryz.prog w = .ok (.slice (some ⟨g, 0, none⟩) n0 n0) w := by
   refine run_append_nothing w _ _ _ 9 i0 Tryz.underlying27 hi0 _ _ _ (Nat.le_refl _) _ ?_
   cases pa with
   | none => exact Src.ofNil w Tryz.underlying27 ncap
   | some ad => exact Src.ofSlice w Tryz.underlying27 ad 0 ncap [] (by simp) (fun j u h => by simp at h) (fun u hu => by cases hu)
  unfold Oper.wp execOp
  simp only [ho, resolve, invoke, builtin, Sem.run_bind, Sem.run_pure, Result.andThen_ok, List.map_toArray, List.map_cons, List.map_nil, hs, hx, hrun]
  exact h _ _ w (by show LnOwnL _ _ _; rw [List.append_nil]; exact hrow) (World.grownBy.refl _ _)
 ·obtain ⟨b, off, rfl, hlt, hc⟩ := hsrc.cells (by omega)
  refine wp_append_own w s x _ ho B _ i0 _ 1 16 Tryz.underlying27 hi0 hz0 hz1 hz2 rfl (by decide) _ n0 _ hs hrow ⟨b, off, none⟩ np ncap (l.map Value.string) hx (by rw [List.length_map, hsrc.len, Nat.mul_one]) ?_ (by intro u hu; obtain ⟨q, _, rfl⟩ := List.mem_map.1 hu; rfl) (by unfold maxLen; omega) (by omega) hBw ?_
  ·intro j u hj
   have hjb : j < l.length := by have := (List.getElem?_eq_some_iff.1 hj).1; simpa using this
   rw [Addr.add_mid, hc j hjb]
   simpa [List.getElem?_eq_getElem hjb] using hj
  ·intro v' w' h1 h2 _
   obtain ⟨sp, cap, rfl⟩ := own_shapeL h1
   exact h sp cap w' (by show World.ownsRow _ _ _ _ _ _ _; rw [List.map_append]; exact h1) h2
theorem wp_append_lnsR {o : Oper} {a : Act} {w : World} {K : Act → World → Prop} {Q : Exit → Act → World → Prop} (s x : Operand)
 (ho : o.op = .call { callee := .builtin .append, args := #[s, x], argTypes := #[59, 59] }) (base : Nat) (v : Value) (done : List Ln) (hs : a.eval s = v) (hown : LnsOwn w base v done)
 (pa : Option Addr) (np ncap : Nat) (ls : List Ln) (hnp : ls.length = np) (hx : a.eval x = .slice pa np ncap) (hsrc : LnsOwn w base (.slice pa np ncap) ls) (h1 : done.length ≤ 100000) (h2 : np ≤ 100000) (hbase : base ≤ w.heap.size)
 (h : ∀ sp cap w', Hid (LnsOwn w' base (.slice sp (done.length + np) cap) (done ++ ls)) → Hid (Below base w w') → K (a.put o.dst (.slice sp (done.length + np) cap)) w') : o.wp Tryz.prog a w K Q := by
 subst hnp
 obtain ⟨i0, hi0, hz0, hz1, hz2⟩ := info_parts infoLnL
 rcases hsrc.row.2 with ⟨e, h0⟩ | ⟨g, cap, cur, e, hb, hgg, hc, hm, hsz, ht⟩
 ·injection e with e1 e2 e3
  subst e1; subst e3
  have hl : ls = [] := List.eq_nil_of_length_eq_zero h0
  subst hl
  obtain ⟨sp, cap, hv⟩ := own_shapeL hown.row
  subst hv
  have hle : done.length ≤ cap := by
   rcases hown.row.2 with ⟨e, h⟩ | ⟨g, cap', cur, e, _, _, h, _⟩
   ·omega
   ·injection e with _ _ e; omega
  have hrun : (Builtin.append_ #[59, 59] o.type #[.slice sp done.length cap, .slice none 0 0]).run Tryz.prog w = .ok (.slice sp done.length cap) w :=
   run_append_nothing w _ _ _ 27 i0 Tryz.underlying59 hi0 _ _ _ hle _ (Src.ofNil w Tryz.underlying59 0)
  have hx' : a.eval x = .slice none 0 0 := hx
  unfold Oper.wp execOp
  simp only [ho, resolve, invoke, builtin, Sem.run_bind, Sem.run_pure, Result.andThen_ok, List.map_toArray, List.map_cons, List.map_nil, hs, hx', hrun]
  exact h _ _ w (by show LnsOwn _ _ _ _; rw [List.append_nil]; exact hown) (Below.refl _ _)
 ·injection e with e1 e2 e3
  subst e1; subst e3
  refine wp_append_own w s x _ ho base _ i0 _ 1 24 Tryz.underlying59 hi0 hz0 hz1 hz2 rfl (by decide) v done.length _ hs hown.row ⟨g, 0, none⟩ ls.length ncap (ls.map Ln.val) hx (by simp) ?_ (by intro u hu; obtain ⟨q, _, rfl⟩ := List.mem_map.1 hu; rfl) (by unfold maxLen; omega) (by omega) hbase ?_
  ·intro j u hj
   have hjb : j < ls.length := by have := (List.getElem?_eq_some_iff.1 hj).1; simpa using this
   obtain ⟨g', off, eg, _, hcell⟩ := (hsrc.lines rfl).cells (by omega)
   injection eg with eg; injection eg with eg1 eg2; subst eg1; subst eg2
   rw [Addr.add_mid, hcell j hjb]
   simpa [List.getElem?_eq_getElem hjb] using hj
  ·intro v' w' g1 g2 _
   obtain ⟨sp, cap, rfl⟩ := own_shapeL g1
   refine h sp cap w' ⟨by rw [List.length_append, List.map_append]; exact g1, fun q hq => ?_⟩ ((Below.refl base w).grown g2 hbase (own_baseL hown.row))
   have hq1 : LnOwnL w base q := by
    rcases List.mem_append.1 hq with h | h
    ·exact hown.each q h
    ·exact hsrc.each q h
   exact World.ownsRow.kept hq1 g2 (own_apartL hq1 hown.row (by decide))
structure EvL (base : Nat) (w2 : World) (v : Value) (done : List Ln) (y : Ln) (w4 : World) : Prop where
 o : LnsOwn w4 base v done
 c : w4.cell? ⟨w2.heap.size + 1, 0, none⟩ = some y.val
 y : LnOwnL w4 base y
 b : Below w2.heap.size w2 w4
 k : base ≤ w4.heap.size
def envW : ByteArray := ⟨#[101, 110, 118]⟩
theorem EvL.new {base : Nat} {w2 : World} {v : Value} {done : List Ln} (ho : LnsOwn w2 base v done) (hb : base ≤ w2.heap.size) (a b : ByteArray) :
 EvL base w2 v done ⟨some ⟨w2.heap.size, 0, none⟩, 3, 3, [envW, a, b]⟩ ((w2.alloc (.cells #[.string envW, .string a, .string b] 9)).alloc (.cells #[.slice (some ⟨w2.heap.size, 0, none⟩) 3 3] 27)) := by
 have h1 := lnOwn_new3 w2 base hb envW a b
 have hb1 : Below w2.heap.size w2 (w2.alloc (.cells #[.string envW, .string a, .string b] 9)) := (Below.refl _ _).alloc (Nat.le_refl _) _
 generalize hw3 : w2.alloc (.cells #[.string envW, .string a, .string b] 9) = w3 at *
 have hs3 : w3.heap.size = w2.heap.size + 1 := by rw [← hw3]; simp
 have hb2 : Below w3.heap.size w3 (w3.alloc (.cells #[.slice (some ⟨w2.heap.size, 0, none⟩) 3 3] 27)) := (Below.refl _ _).alloc (Nat.le_refl _) _
 have hc := heap_alloc_new w3 (.cells #[.slice (some ⟨w2.heap.size, 0, none⟩) 3 3] 27)
 refine ⟨(ho.below hb1).below hb2, ?_, own_belowL h1 hb2, hb1.trans (hb2.mono (by omega)), by have := hb2.size; omega⟩
 rw [← hs3, cell_of_row _ w3.heap.size 0 _ _ _ hc]; rfl
theorem sliceE3 (w : World) (a b : ByteArray) : (Instr.buildSlice 27 3 #[(0, .string envW), (1, .string a), (2, .string b)]).run Tryz.prog w = .ok (.slice (some ⟨w.heap.size, 0, none⟩) 3 3) (w.alloc (.cells #[.string envW, .string a, .string b] 9)) := by kernel_rfl
theorem sliceE1 (w : World) (g : Nat) (n c : Nat) : (Instr.buildSlice 59 1 #[(0, .slice (some ⟨g, 0, none⟩) n c)]).run Tryz.prog w = .ok (.slice (some ⟨w.heap.size, 0, none⟩) 1 1) (w.alloc (.cells #[.slice (some ⟨g, 0, none⟩) n c] 27)) := by kernel_rfl
def recW : ByteArray := ⟨#[114, 101, 99, 111, 114, 100]⟩
def cmdW : ByteArray := ⟨#[99, 111, 109, 109, 97, 110, 100]⟩
def matW : ByteArray := ⟨#[109, 97, 116, 101, 114, 105, 97, 108]⟩
def prdW : ByteArray := ⟨#[112, 114, 111, 100, 117, 99, 116]⟩
def numW (t : Int) : ByteArray := ⟨(Lib.itoa t).toArray⟩
def headR (x : Rc) : List (List ByteArray) := [[recW, x.run, x.scp, x.stp, numW x.t], cmdW :: x.c]
def envR (l : List Vr) : List (List ByteArray) := l.map fun y => [envW, y.n, y.v]
def linesR (x : Rc) : List (List ByteArray) := headR x ++ envR x.v ++ x.m.map (lineE matW) ++ x.p.map (lineE prdW)
def encR (x : Rc) : Nat × List UInt8 := if rcB x = true then enc (linesR x) else (1, [])
def EncAns (x : Rc) (w : World) (e : Ending) (w' : World) : Prop := ∃ v, e = .returned (.tuple #[v, .int .i64 ((encR x).1 : Nat)]) ∧ Hid (w'.ownsRow w.heap.size 5 1 v (encR x).2.length (Lib.byteCells (encR x).2)) ∧ Below w.heap.size w w'
theorem wordsOf_appR (a b : List Ln) : wordsOf (a ++ b) = wordsOf a ++ wordsOf b := by simp [wordsOf]
theorem slice5R (w : World) (a b c d : ByteArray) : (Instr.buildSlice 27 5 #[(0, .string recW), (1, .string a), (2, .string b), (3, .string c), (4, .string d)]).run Tryz.prog w = .ok (.slice (some ⟨w.heap.size, 0, none⟩) 5 5) (w.alloc (.cells ([recW, a, b, c, d].map Value.string).toArray 9)) := by kernel_rfl
theorem lnsOwn_row {w : World} {g B : Nat} {ls : List Ln} {n : Nat} (hg : w.heap[g]? = some (.cells (ls.map Ln.val).toArray 27 (0, 0))) (hb : B ≤ g) (hn : ls.length = n) (hmax : n ≤ 1000) (hq : ∀ q ∈ ls, LnOwnL w B q) : LnsOwn w B (.slice (some ⟨g, 0, none⟩) n n) ls :=
 ⟨⟨by rw [List.length_map, Nat.mul_one], .inr ⟨g, n, _, by rw [hn], hb, hg, by omega, by unfold maxLen; omega, by simp [hn], by show (List.map Ln.val ls).take (ls.length * 1) = _; rw [Nat.mul_one]; exact List.take_of_length_le (by simp)⟩⟩, hq⟩
structure HeadIn (x : Rc) (B : Nat) (v : Value) (w : World) : Prop where
 h : ∃ ls, LnsOwn w B v ls ∧ ls.length = 2 ∧ wordsOf ls = headR x
theorem HeadIn.of {x : Rc} {B : Nat} {w : World} {g0 g5 : Nat} {sp : Option Addr} {cap : Nat} (h0 : w.heap[g0]? = some (.cells #[.slice (some ⟨g5, 0, none⟩) 5 5, .slice sp (1 + x.cn) cap] 27 (0, 0))) (hb0 : B ≤ g0)
 (h5 : w.heap[g5]? = some (.cells ([recW, x.run, x.scp, x.stp, numW x.t].map Value.string).toArray 9 (0, 0))) (hb5 : B ≤ g5) (h1 : LnOwnL w B ⟨sp, 1 + x.cn, cap, [cmdW] ++ x.c⟩) : HeadIn x B (.slice (some ⟨g0, 0, none⟩) 2 2) w := by
 refine ⟨[⟨some ⟨g5, 0, none⟩, 5, 5, [recW, x.run, x.scp, x.stp, numW x.t]⟩, ⟨sp, 1 + x.cn, cap, [cmdW] ++ x.c⟩], lnsOwn_row h0 hb0 rfl (by decide) fun q hq => ?_, rfl, rfl⟩
 rcases List.mem_cons.1 hq with rfl | hq
 ·exact lnOwn_row h5 hb5 rfl (by decide)
 ·obtain rfl := List.mem_singleton.1 hq
  exact h1
theorem LnOwnL.below {w w' : World} {b : Nat} {q : Ln} (h : LnOwnL w b q) (hb : Below w.heap.size w w') : LnOwnL w' b q := own_belowL h hb
theorem LnOwnL.le {w : World} {b : Nat} {q : Ln} (h : LnOwnL w b q) : q.n ≤ 9223372036854775807 := by
 rcases h.2 with ⟨e, h0⟩ | ⟨g, cap, cur, e, _, _, h1, h2, _⟩
 ·omega
 ·unfold maxLen at h2; omega
theorem RcBox.belowB {x : Rc} {w w1 w2 : World} {D : Nat} (h : RcBox x w w1) (h0 : RcIn x w) (hb : Below D w1 w2) (hD : w.heap.size < D) : RcBox x w w2 :=
 ⟨(hb.block _ hD).trans h.r, h0.below (h.b.trans (hb.mono (Nat.le_of_lt hD))), h.b.trans (hb.mono (Nat.le_of_lt hD))⟩
theorem encR_no {x : Rc} (h : rcB x = false) : encR x = (1, []) := by unfold encR; rw [if_neg (by rw [h]; simp)]
theorem encR_yes {x : Rc} (h : rcB x = true) : encR x = enc (linesR x) := by unfold encR; rw [if_pos h]
theorem envR_snoc {l : List Vr} {k : Nat} {y : Vr} (h : l[k]? = some y) : envR (l.take (k + 1)) = envR (l.take k) ++ [[envW, y.n, y.v]] := by
 unfold envR; rw [List.take_add_one, h, List.map_append]; rfl
theorem takeF_any (tag : ByteArray) (gl B : Nat) (sp : Option Addr) (n cap : Nat) (ls : List Ln) (w : World) (hbox : w.cell? ⟨gl, 0, none⟩ = some (.slice sp n cap)) (hfz : w.frozen? ⟨gl, 0, none⟩ = false) (hl : LinesIn w B sp n ls) (hne : ∀ q ∈ ls, q.l ≠ []) (hcap : n ≤ cap) (hmax : n ≤ 100000) :
 Calls Tryz.prog 62 #[.string tag, .pointer (some ⟨gl, 0, none⟩)] w fun e w' => ∃ k sp' cap', k ≤ n ∧ e = .returned (.slice sp k cap) ∧ w' = w.setCell ⟨gl, 0, none⟩ (.slice sp' (n - k) cap') ∧ LinesIn w B sp k (ls.take k) ∧ LinesIn w B sp' (n - k) (ls.drop k) ∧ n - k ≤ cap' ∧
  wordsOf (ls.take k) = (wordsOf ls).takeWhile (hdT tag) ∧ wordsOf (ls.drop k) = (wordsOf ls).dropWhile (hdT tag) := by
 refine (take_any tag gl B sp n cap ls w hbox hfz hl hne hcap hmax).mono ?_
 rintro e w' ⟨k, hk, h1, h2, rfl, rfl⟩
 obtain ⟨e1, e2⟩ := while_of (fun q : Ln => hdT tag q.l) ls k (by rw [hl.len]; exact hk) h1 h2
 refine ⟨k, _, _, hk, rfl, rfl, hl.till hk, hl.from hk hcap, by omega, ?_, ?_⟩
 ·rw [← e1]; unfold wordsOf; rw [List.takeWhile_map]; rfl
 ·rw [← e2]; unfold wordsOf; rw [List.dropWhile_map]; rfl
structure LfB (g2 g3 gd B : Nat) (sp : Option Addr) (n cap : Nat) (ls : List Ln) (w : World) : Prop where
 box : w.heap[g3]? = some (.cells #[.slice sp n cap] 59 (0, 0))
 res : ∃ x m v, w.heap[g2]? = some (.cells (drL x m v).toArray 70 (0, 0))
 li : LinesIn w B sp n ls
 cap : n ≤ cap
 ne : g3 ≠ gd
 ne2 : g2 ≠ gd ∧ g2 ≠ g3
 b3 : B ≤ g3
 b2 : B ≤ g2
theorem LfB.cell {g2 g3 gd B : Nat} {sp : Option Addr} {n cap : Nat} {ls : List Ln} {w : World} (h : LfB g2 g3 gd B sp n cap ls w) : w.cell? ⟨g3, 0, none⟩ = some (.slice sp n cap) ∧ w.frozen? ⟨g3, 0, none⟩ = false :=
 ⟨by rw [cell_of_row w g3 0 _ _ _ h.box]; rfl, frozen_of_row _ _ _ _ _ h.box⟩
theorem LfB.nle {g2 g3 gd B : Nat} {sp : Option Addr} {n cap : Nat} {ls ls0 : List Ln} {w : World} (h : LfB g2 g3 gd B sp n cap ls w) {N : Nat} (hN : ls0.length ≤ N) (hl : ls.length ≤ ls0.length) : n ≤ N := by rw [← h.li.len]; omega
theorem LfB.take {g2 g3 gd B : Nat} {sp : Option Addr} {n cap : Nat} {ls : List Ln} {w : World} (h : LfB g2 g3 gd B sp n cap ls w) (sp' : Option Addr) (n' cap' : Nat) (ls' : List Ln) (hl : LinesIn w B sp' n' ls') (hc : n' ≤ cap') : LfB g2 g3 gd B sp' n' cap' ls' (w.setCell ⟨g3, 0, none⟩ (.slice sp' n' cap')) := by
 obtain ⟨x, m, v, hr⟩ := h.res
 exact ⟨by rw [heap_setCell_same _ _ _ _ _ _ h.box]; rfl, ⟨x, m, v, (heap_setCell_other _ _ _ _ h.ne2.2).trans hr⟩, hl.below ((Below.refl B w).setCell (p := ⟨g3, 0, none⟩) h.b3 _) (Nat.le_refl _), hc, h.ne, h.ne2, h.b3, h.b2⟩
theorem LfB.frm {g2 g3 gd B : Nat} {sp : Option Addr} {n cap : Nat} {ls : List Ln} {w w' : World} (h : LfB g2 g3 gd B sp n cap ls w) (hf : Frm gd B w w') : LfB g2 g3 gd B sp n cap ls w' := by
 obtain ⟨x, m, v, hr⟩ := h.res
 exact ⟨(hf.k _ _ _ _ h.box h.ne (by decide)).trans h.box, ⟨x, m, v, (hf.k _ _ _ _ hr h.ne2.1 (by decide)).trans hr⟩, h.li.below hf.b (Nat.le_refl _), h.cap, h.ne, h.ne2, h.b3, h.b2⟩
theorem LfB.turn {g2 g3 gd B : Nat} {sp : Option Addr} {n cap : Nat} {ls : List Ln} {w w' : World} (h : LfB g2 g3 gd B sp n cap ls w) (ht : Turn gd w w') (hB : B ≤ gd) (hg : gd < w.heap.size) : LfB g2 g3 gd B sp n cap ls w' := h.frm (Frm.turn ht hB hg)
theorem own_setOther {w : World} {g j B e size n : Nat} {u v : Value} {xs : List Value} {cs : Array Value} {t : TypeId} (h : w.ownsRow B e size v n xs) (hg : w.heap[g]? = some (.cells cs t (0, 0))) (he : e ≠ t) : (w.setCell ⟨g, j, none⟩ u).ownsRow B e size v n xs :=
 own_keptQ h fun k cur _ hc => heap_setCell_other _ _ _ _ (by
  rintro rfl
  rw [hg] at hc
  injection hc with hc
  injection hc with _ hc _
  exact he hc.symm)
theorem DrB.other {gd B g3 : Nat} {x : Rc} {m v : Bool} {w : World} (h : DrB gd B x m v w) {cs : Array Value} (hb : w.heap[g3]? = some (.cells cs 59 (0, 0))) (hne : g3 ≠ gd) (hB : B ≤ g3) {u : Value} : DrB gd B x m v (w.setCell ⟨g3, 0, none⟩ u) :=
 ⟨(heap_setCell_other _ _ _ _ (Ne.symm hne)).trans h.row, h.lo, h.c.below ((Below.refl B w).setCell (p := ⟨g3, 0, none⟩) hB _) (Nat.le_refl _), ⟨own_setOther h.v.1 hb (by decide), h.v.2⟩, ⟨⟨own_setOther h.m.1.1 hb (by decide), h.m.1.2⟩, h.m.2⟩, ⟨⟨own_setOther h.p.1.1 hb (by decide), h.p.1.2⟩, h.p.2⟩⟩
def okT (L : List (List ByteArray)) : Bool := decide (L.length = 1) && okH (L.getD 0 [])
def hdP (p : Rp) (q : List ByteArray) : Rp := { p with run := q.getD 1 ByteArray.empty, scp := q.getD 2 ByteArray.empty, stp := q.getD 3 ByteArray.empty, t := pnv (q.getD 4 ByteArray.empty).data.toList }
theorem head_plain {ls : List Ln} {m1 : Bool} {x x1 : Rc} (h : (m1 = true ∧ ¬ ∃ q, ls = [q] ∧ okH q.l = true ∧ false = false) ∨ (m1 = false ∧ ∃ q, ls = [q] ∧ okH q.l = true ∧ x1 = hdR x q.l)) :
 m1 = !okT (wordsOf ls) ∧ (m1 = false → x1.pl = hdP x.pl ((wordsOf ls).getD 0 [])) := by
 rcases h with ⟨rfl, hn⟩ | ⟨rfl, q, rfl, hk, rfl⟩
 ·refine ⟨?_, fun h => by cases h⟩
  cases ho : okT (wordsOf ls) with
  | false => rfl
  | true =>
    refine absurd ?_ hn
    unfold okT at ho
    rw [Bool.and_eq_true, decide_eq_true_eq] at ho
    match ls, ho with
    | [q], ho => exact ⟨q, rfl, ho.2, rfl⟩
 ·refine ⟨?_, fun _ => rfl⟩
  unfold okT
  simp [wordsOf, hk]
def R1 (L : List (List ByteArray)) := L.dropWhile (hdT recW)
def R2 (L : List (List ByteArray)) := (R1 L).dropWhile (hdT cmdW)
def R3 (L : List (List ByteArray)) := (R2 L).dropWhile (hdT envW)
def R4 (L : List (List ByteArray)) := (R3 L).dropWhile (hdT matW)
def R5 (L : List (List ByteArray)) := (R4 L).dropWhile (hdT prdW)
def T1 (L : List (List ByteArray)) := L.takeWhile (hdT recW)
def T2 (L : List (List ByteArray)) := (R1 L).takeWhile (hdT cmdW)
def T3 (L : List (List ByteArray)) := (R2 L).takeWhile (hdT envW)
def T4 (L : List (List ByteArray)) := (R3 L).takeWhile (hdT matW)
def T5 (L : List (List ByteArray)) := (R4 L).takeWhile (hdT prdW)
def formedR (L : List (List ByteArray)) : Bool := okT (T1 L) && (decide ((T2 L).length = 1) && ((T3 L).all len3 && ((rawL matW (T4 L)).isSome && ((rawL prdW (T5 L)).isSome && decide ((R5 L).length = 0)))))
def zP : Rp := ⟨⟨#[]⟩, ⟨#[]⟩, ⟨#[]⟩, 0, [], [], [], []⟩
def recP (L : List (List ByteArray)) : Rp :=
 { hdP zP ((T1 L).getD 0 []) with c := ((T2 L).getD 0 []).drop 1, v := (T3 L).map vrOf, m := (rawL matW (T4 L)).getD [], p := (rawL prdW (T5 L)).getD [] }
def zX : Rc := ⟨⟨#[]⟩, ⟨#[]⟩, ⟨#[]⟩, 0, none, 0, 0, [], none, 0, 0, [], none, 0, 0, [], none, 0, 0, []⟩
def RdlAns (ls : List Ln) (L : List (List ByteArray)) (w : World) (e : Ending) (w' : World) : Prop := ∃ x m v, e = .returned (.agg (drL x m v).toArray) ∧ Hid ((StrsIn w' w'.heap.size x.c1 x.cn x.c ∧ (x.c1 = none ∨ ∃ q ∈ ls, x.c1 = slZ q.sp 1 1 q.cap)) ∧ (w'.ownsRow w.heap.size 61 2 (.slice x.v1 x.vn x.vc) x.vn (x.v.flatMap vrL) ∧ x.v.length = x.vn) ∧ (OwnE w' w.heap.size (.slice x.m1 x.mn x.mc) x.m ∧ x.m.length = x.mn) ∧ (OwnE w' w.heap.size (.slice x.p1 x.pn x.pc) x.p ∧ x.p.length = x.pn)) ∧
 m = !formedR L ∧ Hid (m = false → (v = false → x.pl = recP L) ∧ (v = true → (vldE (recP L).m && vldE (recP L).p) = false)) ∧ Below w.heap.size w w'
theorem rowsV_in {w : World} {B : Nat} {sp : Option Addr} {n cap : Nat} {l : List Vr} (h : w.ownsRow B 61 2 (.slice sp n cap) n (l.flatMap vrL)) (hl : l.length = n) : VrsIn w w.heap.size sp n cap l := by
 refine ⟨hl, fun h0 => ?_⟩
 subst hl
 have h1 := h
 obtain ⟨_, ⟨e, e0⟩ | ⟨g, cap', cur, e, _⟩⟩ := h
 ·omega
 ·injection e with e1 e2 e3
  subst e1
  obtain ⟨hg, hc, hr⟩ := own_rangeG (f := vrL) h1 (fun x _ => rfl) rfl
  exact ⟨g, 0, rfl, hg, hc, hr⟩
theorem rdl_plain {L : List (List ByteArray)} {x1 x2 x3 x5 : Rc} {m1 m2 m3 m4 m5 m6 v4 v5 : Bool} {lm lp : List En}
 (h1 : m1 = !okT (T1 L)) (p1 : m1 = false → x1.pl = hdP zX.pl ((T1 L).getD 0 [])) (h2 : m2 = (m1 || !decide ((T2 L).length = 1))) (p2 : m2 = false → x2.pl = { x1.pl with c := ((T2 L).getD 0 []).drop 1 })
 (h3 : m3 = (m2 || !(T3 L).all len3)) (p3 : m3 = false → x3.pl = { x2.pl with v := x2.pl.v ++ (T3 L).map vrOf })
 (h4 : m4 = (m3 || !(rawL matW (T4 L)).isSome)) (r4 : ∀ l0, rawL matW (T4 L) = some l0 → (vldE l0 = true → lm = l0 ∧ v4 = false) ∧ (vldE l0 = false → v4 = true))
 (h5 : m5 = (m4 || !(rawL prdW (T5 L)).isSome)) (r5 : ∀ l0, rawL prdW (T5 L) = some l0 → (vldE l0 = true → lp = l0 ∧ v5 = v4) ∧ (vldE l0 = false → v5 = true))
 (h6 : m6 = (m5 || !decide ((R5 L).length = 0))) (px : x5.pl = { x3.pl with m := lm, p := lp }) :
 m6 = !formedR L ∧ (m6 = false → (v5 = false → x5.pl = recP L) ∧ (v5 = true → (vldE (recP L).m && vldE (recP L).p) = false)) := by
 have hf : m6 = !formedR L := by
  unfold formedR
  rw [h6, h5, h4, h3, h2, h1]
  cases okT (T1 L) <;> cases decide ((T2 L).length = 1) <;> cases (T3 L).all len3 <;> cases (rawL matW (T4 L)).isSome <;> cases (rawL prdW (T5 L)).isSome <;> cases decide ((R5 L).length = 0) <;> rfl
 refine ⟨hf, fun h => ?_⟩
 rw [h] at h6
 have e6 := (Bool.or_eq_false_iff.1 h6.symm).1
 rw [e6] at h5
 have e5 := Bool.or_eq_false_iff.1 h5.symm
 rw [e5.1] at h4
 have e4 := Bool.or_eq_false_iff.1 h4.symm
 rw [e4.1] at h3
 have e3 := Bool.or_eq_false_iff.1 h3.symm
 rw [e3.1] at h2
 have e2 := Bool.or_eq_false_iff.1 h2.symm
 have q1 := p1 e2.1
 have q2 := p2 e3.1
 have q3 := p3 e4.1
 obtain ⟨l0, hl0⟩ : ∃ l0, rawL matW (T4 L) = some l0 := by
  cases hq : rawL matW (T4 L) with
  | none => rw [hq] at e4; simp at e4
  | some l => exact ⟨l, rfl⟩
 obtain ⟨l1, hl1⟩ : ∃ l1, rawL prdW (T5 L) = some l1 := by
  cases hq : rawL prdW (T5 L) with
  | none => rw [hq] at e5; simp at e5
  | some l => exact ⟨l, rfl⟩
 have hm : (recP L).m = l0 := by unfold recP; rw [hl0]; rfl
 have hp : (recP L).p = l1 := by unfold recP; rw [hl1]; rfl
 obtain ⟨a1, a2⟩ := r4 l0 hl0
 obtain ⟨b1, b2⟩ := r5 l1 hl1
 constructor
 ·intro hv
  have k1 : vldE l1 = true := by
   cases hk : vldE l1 with
   | true => rfl
   | false => rw [b2 hk] at hv; cases hv
  have k0 : vldE l0 = true := by
   cases hk : vldE l0 with
   | true => rfl
   | false => rw [(b1 k1).2, a2 hk] at hv; cases hv
  rw [px, q3, q2, q1, (a1 k0).1, (b1 k1).1]
  unfold recP
  rw [hl0, hl1]
  rfl
 ·intro hv
  rw [hm, hp]
  cases hk1 : vldE l1 with
  | false => simp
  | true =>
    cases hk0 : vldE l0 with
    | false => simp
    | true => rw [(b1 hk1).2, (a1 hk0).2] at hv; cases hv
theorem readLinesR_any (sp0 : Option Addr) (n0 cap0 : Nat) (ls : List Ln) (w : World) (hl : LinesIn w w.heap.size sp0 n0 ls) (hcap : n0 ≤ cap0) (hlen : ls.length ≤ 1000) (hne : ∀ q ∈ ls, q.l ≠ []) (hq : ∀ q ∈ ls, q.n ≤ q.cap ∧ q.n ≤ 1000) (hsz : ∀ q ∈ ls, ∀ s ∈ q.l, s.size ≤ 100000) :
 Calls Tryz.prog 30 #[.slice sp0 n0 cap0] w (RdlAns ls (wordsOf ls) w) := by
 have HL := zh hl; have HCP := zh hcap; have HLN := zh hlen; have HNE := zh hne; have HQ := zh hq; have HSZ := zh hsz
 clear hl hcap hlen hne hq hsz
 go_enter Tryz.func30, Tryz.ntmps30
 go_upto_region 1 with fail
 generalize hwa : World.alloc w _ = wa
 have HRA : Hid (wa.heap[w.heap.size]? = some (.cells (drL zX false false).toArray 70 (0, 0))) := by rw [← hwa]; exact heap_alloc_new _ _
 have HBA : Hid (Below w.heap.size w wa) := by rw [← hwa]; exact (Below.refl _ _).alloc (Nat.le_refl _) _
 have HSA : Hid (w.heap.size < wa.heap.size) := (Array.getElem?_eq_some_iff.1 HRA.out).1
 clear hwa
 have HR3' : Hid ((wa.alloc (.cells #[.slice sp0 n0 cap0] 59)).heap[wa.heap.size]? = some (.cells #[.slice sp0 n0 cap0] 59 (0, 0))) := heap_alloc_new _ _
 have HBB : Hid (Below wa.heap.size wa (wa.alloc (.cells #[.slice sp0 n0 cap0] 59))) := (Below.refl _ _).alloc (Nat.le_refl _) _
 have HRB := zh (heap_alloc_new wa (.cells #[.slice none 0 0] 59))
 have cS : (wa.alloc (.cells #[.slice none 0 0] 59)).cell? ⟨wa.heap.size, 0, none⟩ = some (.slice none 0 0) := by rw [cell_of_row _ _ 0 _ _ _ HRB.out]; rfl
 have fS : (wa.alloc (.cells #[.slice none 0 0] 59)).frozen? ⟨wa.heap.size, 0, none⟩ = false := frozen_of_row _ _ _ _ _ HRB.out
 go_upto_region 2 with fail
 clear cS fS HRB
 have HR2' : Hid ((wa.alloc (.cells #[.slice sp0 n0 cap0] 59)).heap[w.heap.size]? = some (.cells (drL zX false false).toArray 70 (0, 0))) := (HBB.out.block _ HSA.out).trans HRA.out
 have HB1' : Hid (Below w.heap.size w (wa.alloc (.cells #[.slice sp0 n0 cap0] 59))) := HBA.out.trans (HBB.out.mono HBA.out.size)
 generalize World.alloc wa (.cells #[.slice sp0 n0 cap0] 59) = w1 at *
 have HG3 : Hid (w.heap.size < wa.heap.size ∧ wa.heap.size < w1.heap.size) := ⟨HSA.out, (Array.getElem?_eq_some_iff.1 HR3'.out).1⟩
 generalize wa.heap.size = g3 at *
 clear HRA HBA HSA HBB
 go_upto_region 4 with fail
 generalize hw2 : World.alloc w1 _ = w2
 have hrd : w2.heap[w1.heap.size]? = some (.cells (drL zX false false).toArray 70 (0, 0)) := by rw [← hw2]; exact heap_alloc_new _ _
 have hb12 : Below w1.heap.size w1 w2 := by rw [← hw2]; exact (Below.refl _ _).alloc (Nat.le_refl _) _
 have HGD : Hid (g3 < w1.heap.size) := HG3.out.2
 have HR3 : Hid (w2.heap[g3]? = some (.cells #[.slice sp0 n0 cap0] 59 (0, 0))) := (hb12.block _ HG3.out.2).trans HR3'.out
 have HR2 : Hid (w2.heap[w.heap.size]? = some (.cells (drL zX false false).toArray 70 (0, 0))) := (hb12.block _ (Nat.lt_trans HG3.out.1 HG3.out.2)).trans HR2'.out
 have HB0 : Hid (Below w.heap.size w w2) := HB1'.out.trans (hb12.mono (Nat.le_of_lt (Nat.lt_trans HG3.out.1 HG3.out.2)))
 have HD0 : Hid (DrB w1.heap.size w.heap.size zX false false w2) := ⟨hrd, Nat.le_of_lt (Nat.lt_trans HG3.out.1 HG3.out.2), ⟨rfl, fun h => absurd h (by show ¬ (0 < 0); omega)⟩, ⟨World.ownsRow_nil _ _ _ _, rfl⟩, ⟨⟨World.ownsRow_nil _ _ _ _, by show ∀ x ∈ ([] : List En), _; simp⟩, rfl⟩, ⟨⟨World.ownsRow_nil _ _ _ _, by show ∀ x ∈ ([] : List En), _; simp⟩, rfl⟩⟩
 have LF0 : Hid (LfB w.heap.size g3 w1.heap.size w.heap.size sp0 n0 cap0 ls w2) := ⟨HR3.out, ⟨_, _, _, HR2.out⟩, HL.out.below HB0.out (Nat.le_refl _), HCP.out, by have := HG3.out.2; omega, ⟨by have := HG3.out; omega, by have := HG3.out; omega⟩, by have := HG3.out.1; omega, Nat.le_refl _⟩
 clear hw2 hrd hb12 HR3 HR2 HR3' HR2' HB1' HG3 HGD HL HCP
 generalize w1.heap.size = gd at *
 clear w1 wa
 obtain ⟨B, hB⟩ : ∃ B, B = w.heap.size := ⟨_, rfl⟩
 obtain ⟨g2, hg2⟩ : ∃ g2, g2 = w.heap.size := ⟨_, rfl⟩
 have LF0' : Hid (LfB g2 g3 gd B sp0 n0 cap0 ls w2) := by rw [hg2, hB]; exact LF0.out
 rw [← hB] at HD0 HB0
 rw [← hg2]
 clear LF0 hg2
 have HBE := zh hB
 clear hB
 have LF0 := zh LF0'.out
 clear LF0'
 have LS0 : Hid (∀ q ∈ ls, q ∈ ls) := fun q hq => hq
 have LSL0 : Hid (ls.length ≤ ls.length) := Nat.le_refl _
 obtain ⟨L, hL⟩ : ∃ L, L = wordsOf ls := ⟨_, rfl⟩
 have EB0 : Hid (wordsOf ls = L) := hL.symm
 have HLW := zh hL
 clear hL
 have HTK0 := zh (takeF_any recW g3 B sp0 n0 cap0 ls w2 LF0.out.cell.1 LF0.out.cell.2 LF0.out.li (fun q hq => HNE.out q (LS0.out q hq)) LF0.out.cap (by have := LF0.out.nle HLN.out LSL0.out; omega))
 go_wp2_with fail
 refine HTK0.out.mono ?_
 rintro e wt ⟨k, sp1, cap1, hk, rfl, rfl, hl1, hl2, hc2, e1, e2⟩
 have LF0t := zh (LF0.out.take sp1 (n0 - k) cap1 (ls.drop k) hl2 hc2)
 have HD0t := zh (HD0.out.other LF0.out.box LF0.out.ne LF0.out.b3 (u := .slice sp1 (n0 - k) cap1))
 have HL0t : Hid (LinesIn (w2.setCell ⟨g3, 0, none⟩ (.slice sp1 (n0 - k) cap1)) B sp0 k (ls.take k)) := hl1.below ((Below.refl B w2).setCell (p := ⟨g3, 0, none⟩) LF0.out.b3 _) (Nat.le_refl _)
 have HBt0 : Hid (Below B w (w2.setCell ⟨g3, 0, none⟩ (.slice sp1 (n0 - k) cap1))) := HB0.out.setCell (p := ⟨g3, 0, none⟩) LF0.out.b3 _
 have LS1 : Hid (∀ q ∈ ls.drop k, q ∈ ls) := fun q hq => LS0.out q (List.mem_of_mem_drop hq)
 have LT0 : Hid (∀ q ∈ ls.take k, q ∈ ls) := fun q hq => LS0.out q (List.mem_of_mem_take hq)
 have LSL1 : Hid ((ls.drop k).length ≤ ls.length) := by show _ ≤ _; rw [List.length_drop]; have := LSL0.out; omega
 have EA0 := zh (e1.trans (congrArg (List.takeWhile (hdT recW)) EB0.out))
 have EB1 := zh (e2.trans (congrArg (List.dropWhile (hdT recW)) EB0.out))
 have HK0 : Hid (k ≤ 1000 ∧ (ls.take k).length = k) := ⟨by have := LF0.out.nle HLN.out LSL0.out; omega, hl1.len⟩
 generalize hls : ls.drop k = ls1 at *
 generalize hn : n0 - k = n1 at *
 generalize hts : ls.take k = ts0 at *
 clear hk hl1 hl2 hc2 e1 e2 HTK0 hls hn hts LF0 HD0 HB0 LS0 LSL0 EB0
 generalize World.setCell w2 ⟨g3, 0, none⟩ _ = v0 at *
 go_wp2_with fail
 refine (readHead_any gd B zX false false sp0 k cap0 ts0 v0 HD0t.out HL0t.out (fun q hq => HSZ.out q (LT0.out q hq))).mono ?_
 rintro e w3 ⟨rfl, ht, x1, m1, hd, hvn, hor⟩
 obtain ⟨hm1, hp1⟩ := head_plain hor
 rw [EA0.out] at hm1 hp1
 have HM1 := zh hm1; have HP1 := zh hp1; have HD1 := zh hd
 have HV1 : Hid (x1.vn = 0 ∧ x1.c1 = none) := ⟨hvn.1.trans rfl, hvn.2.trans rfl⟩
 clear hor hm1 hp1 hd hvn HK0 EA0
 have LF1 := zh (LF0t.out.turn ht HD0t.out.lo HD0t.out.lt)
 have HB1 : Hid (Below B w w3) := HBt0.out.trans (ht.below HD0t.out.lo HD0t.out.lt)
 clear ht LF0t HD0t HL0t HBt0 LT0
 have HTK1 := zh (takeF_any cmdW g3 B sp1 n1 cap1 ls1 w3 LF1.out.cell.1 LF1.out.cell.2 LF1.out.li (fun q hq => HNE.out q (LS1.out q hq)) LF1.out.cap (by have := LF1.out.nle HLN.out LSL1.out; omega))
 go_wp2_with fail
 refine HTK1.out.mono ?_
 rintro e wt ⟨k, sp2, cap2, hk, rfl, rfl, hl1, hl2, hc2, e1, e2⟩
 have LF1t := zh (LF1.out.take sp2 (n1 - k) cap2 (ls1.drop k) hl2 hc2)
 have HD1t := zh (HD1.out.other LF1.out.box LF1.out.ne LF1.out.b3 (u := .slice sp2 (n1 - k) cap2))
 have HL1t : Hid (LinesIn (w3.setCell ⟨g3, 0, none⟩ (.slice sp2 (n1 - k) cap2)) B sp1 k (ls1.take k)) := hl1.below ((Below.refl B w3).setCell (p := ⟨g3, 0, none⟩) LF1.out.b3 _) (Nat.le_refl _)
 have HBt1 : Hid (Below B w (w3.setCell ⟨g3, 0, none⟩ (.slice sp2 (n1 - k) cap2))) := HB1.out.setCell (p := ⟨g3, 0, none⟩) LF1.out.b3 _
 have LS2 : Hid (∀ q ∈ ls1.drop k, q ∈ ls) := fun q hq => LS1.out q (List.mem_of_mem_drop hq)
 have LT1 : Hid (∀ q ∈ ls1.take k, q ∈ ls) := fun q hq => LS1.out q (List.mem_of_mem_take hq)
 have LSL2 : Hid ((ls1.drop k).length ≤ ls.length) := by show _ ≤ _; rw [List.length_drop]; have := LSL1.out; omega
 have EA1 := zh (e1.trans (congrArg (List.takeWhile (hdT cmdW)) EB1.out))
 have EB2 := zh (e2.trans (congrArg (List.dropWhile (hdT cmdW)) EB1.out))
 have HK1 : Hid (k ≤ 1000 ∧ (ls1.take k).length = k) := ⟨by have := LF1.out.nle HLN.out LSL1.out; omega, hl1.len⟩
 generalize hls : ls1.drop k = ls2 at *
 generalize hn : n1 - k = n2 at *
 generalize hts : ls1.take k = ts1 at *
 clear hk hl1 hl2 hc2 e1 e2 HTK1 hls hn hts LF1 HD1 HB1 LS1 LSL1 EB1
 generalize World.setCell w3 ⟨g3, 0, none⟩ _ = v1 at *
 go_wp2_with fail
 refine (readCommand_any gd B x1 m1 false sp1 k cap1 ts1 v1 HD1t.out HL1t.out (fun q hq => ⟨HNE.out q (LT1.out q hq), (HQ.out q (LT1.out q hq)).1⟩)).mono ?_
 rintro e w4 ⟨rfl, ht, x2, m2, hd, hvn, hm2, hp2⟩
 rw [← HK1.out.2, ← wordsOf_length] at hm2
 rw [EA1.out] at hm2 hp2
 have HM2 := zh hm2; have HP2 := zh hp2; have HD2 := zh hd
 have HV2 : Hid (x2.vn = 0 ∧ (x2.c1 = none ∨ ∃ q ∈ ls, x2.c1 = slZ q.sp 1 1 q.cap)) := ⟨hvn.1.trans HV1.out.1, hvn.2.elim (fun h => .inl (h.trans HV1.out.2)) fun ⟨q, hq, h⟩ => .inr ⟨q, LT1.out q hq, h⟩⟩
 clear hm2 hp2 hd hvn HK1 EA1 HV1
 have LF2 := zh (LF1t.out.turn ht HD1t.out.lo HD1t.out.lt)
 have HB2 : Hid (Below B w w4) := HBt1.out.trans (ht.below HD1t.out.lo HD1t.out.lt)
 clear ht LF1t HD1t HL1t HBt1 LT1
 have HTK2 := zh (takeF_any envW g3 B sp2 n2 cap2 ls2 w4 LF2.out.cell.1 LF2.out.cell.2 LF2.out.li (fun q hq => HNE.out q (LS2.out q hq)) LF2.out.cap (by have := LF2.out.nle HLN.out LSL2.out; omega))
 go_wp2_with fail
 refine HTK2.out.mono ?_
 rintro e wt ⟨k, sp3, cap3, hk, rfl, rfl, hl1, hl2, hc2, e1, e2⟩
 have LF2t := zh (LF2.out.take sp3 (n2 - k) cap3 (ls2.drop k) hl2 hc2)
 have HD2t := zh (HD2.out.other LF2.out.box LF2.out.ne LF2.out.b3 (u := .slice sp3 (n2 - k) cap3))
 have HL2t : Hid (LinesIn (w4.setCell ⟨g3, 0, none⟩ (.slice sp3 (n2 - k) cap3)) B sp2 k (ls2.take k)) := hl1.below ((Below.refl B w4).setCell (p := ⟨g3, 0, none⟩) LF2.out.b3 _) (Nat.le_refl _)
 have HBt2 : Hid (Below B w (w4.setCell ⟨g3, 0, none⟩ (.slice sp3 (n2 - k) cap3))) := HB2.out.setCell (p := ⟨g3, 0, none⟩) LF2.out.b3 _
 have LS3 : Hid (∀ q ∈ ls2.drop k, q ∈ ls) := fun q hq => LS2.out q (List.mem_of_mem_drop hq)
 have LT2 : Hid (∀ q ∈ ls2.take k, q ∈ ls) := fun q hq => LS2.out q (List.mem_of_mem_take hq)
 have LSL3 : Hid ((ls2.drop k).length ≤ ls.length) := by show _ ≤ _; rw [List.length_drop]; have := LSL2.out; omega
 have EA2 := zh (e1.trans (congrArg (List.takeWhile (hdT envW)) EB2.out))
 have EB3 := zh (e2.trans (congrArg (List.dropWhile (hdT envW)) EB2.out))
 have HK2 : Hid (k ≤ 1000 ∧ (ls2.take k).length = k) := ⟨by have := LF2.out.nle HLN.out LSL2.out; omega, hl1.len⟩
 generalize hls : ls2.drop k = ls3 at *
 generalize hn : n2 - k = n3 at *
 generalize hts : ls2.take k = ts2 at *
 clear hk hl1 hl2 hc2 e1 e2 HTK2 hls hn hts LF2 HD2 HB2 LS2 LSL2 EB2
 generalize World.setCell w4 ⟨g3, 0, none⟩ _ = v2 at *
 go_wp2_with fail
 refine (readEnv_any gd B x2 m2 false sp2 k cap2 ts2 v2 HD2t.out HL2t.out HK2.out.1 HV2.out.1).mono ?_
 rintro e w5 ⟨rfl, hf, x3, m3, hd, hc3, hm3, hp3⟩
 have HV3 : Hid (x3.c1 = none ∨ ∃ q ∈ ls, x3.c1 = slZ q.sp 1 1 q.cap) := by show _ ∨ _; rw [hc3]; exact HV2.out.2
 clear hc3
 rw [EA2.out] at hm3 hp3
 have HM3 := zh hm3; have HP3 := zh hp3; have HD3 := zh hd
 have LF3 := zh (LF2t.out.frm hf)
 have HB3 : Hid (Below B w w5) := HBt2.out.trans hf.b
 clear hm3 hp3 hd hf LF2t HD2t HL2t HBt2 LT2 HK2 EA2 HV2
 have HTK3 := zh (takeF_any matW g3 B sp3 n3 cap3 ls3 w5 LF3.out.cell.1 LF3.out.cell.2 LF3.out.li (fun q hq => HNE.out q (LS3.out q hq)) LF3.out.cap (by have := LF3.out.nle HLN.out LSL3.out; omega))
 go_wp2_with fail
 refine HTK3.out.mono ?_
 rintro e wt ⟨k, sp4, cap4, hk, rfl, rfl, hl1, hl2, hc2, e1, e2⟩
 have LF3t := zh (LF3.out.take sp4 (n3 - k) cap4 (ls3.drop k) hl2 hc2)
 have HD3t := zh (HD3.out.other LF3.out.box LF3.out.ne LF3.out.b3 (u := .slice sp4 (n3 - k) cap4))
 have HL3t : Hid (LinesIn (w5.setCell ⟨g3, 0, none⟩ (.slice sp4 (n3 - k) cap4)) B sp3 k (ls3.take k)) := hl1.below ((Below.refl B w5).setCell (p := ⟨g3, 0, none⟩) LF3.out.b3 _) (Nat.le_refl _)
 have HBt3 : Hid (Below B w (w5.setCell ⟨g3, 0, none⟩ (.slice sp4 (n3 - k) cap4))) := HB3.out.setCell (p := ⟨g3, 0, none⟩) LF3.out.b3 _
 have LS4 : Hid (∀ q ∈ ls3.drop k, q ∈ ls) := fun q hq => LS3.out q (List.mem_of_mem_drop hq)
 have LT3 : Hid (∀ q ∈ ls3.take k, q ∈ ls) := fun q hq => LS3.out q (List.mem_of_mem_take hq)
 have LSL4 : Hid ((ls3.drop k).length ≤ ls.length) := by show _ ≤ _; rw [List.length_drop]; have := LSL3.out; omega
 have EA3 := zh (e1.trans (congrArg (List.takeWhile (hdT matW)) EB3.out))
 have EB4 := zh (e2.trans (congrArg (List.dropWhile (hdT matW)) EB3.out))
 have HK3 : Hid (k ≤ 1000 ∧ (ls3.take k).length = k) := ⟨by have := LF3.out.nle HLN.out LSL3.out; omega, hl1.len⟩
 generalize hls : ls3.drop k = ls4 at *
 generalize hn : n3 - k = n4 at *
 generalize hts : ls3.take k = ts3 at *
 clear hk hl1 hl2 hc2 e1 e2 HTK3 hls hn hts LF3 HD3 HB3 LS3 LSL3 EB3
 generalize World.setCell w5 ⟨g3, 0, none⟩ _ = v3 at *
 go_wp2_with fail
 refine (readFiles_any gd B x3 m3 false matW sp3 k cap3 ts3 v3 HD3t.out HL3t.out HK3.out.1 (fun q hq => by have := (HQ.out q (LT3.out q hq)).2; omega) (fun q hq => HSZ.out q (LT3.out q hq))).mono ?_
 rintro e w6 ⟨spm, nm, cm, lm, m4, v4, rfl, ht, hd, ho, hm4, hr4⟩
 rw [EA3.out] at hm4 hr4
 have HM4 := zh hm4; have HR4 := zh hr4
 have HD4 := zh (hd.out.set 6 (.slice spm nm cm) { x3 with m1 := spm, mn := nm, mc := cm, m := lm } m4 v4 rfl hd.out.c hd.out.v ho.out hd.out.p)
 have cS := (hd.out.cell (j := 6) rfl).1
 have fS := (hd.out.cell (j := 6) rfl).2
 have ht2 : Turn gd v3 (w6.setCell ⟨gd, 6, none⟩ (.slice spm nm cm)) := ht.trans (Turn.tick _ _ _ _)
 clear hd ho hm4 hr4 ht HK3 EA3
 go_upto_region 8 with fail
 clear cS fS
 generalize World.setCell w6 ⟨gd, 6, none⟩ _ = w7 at *
 have ht := ht2
 clear ht2
 have LF4 := zh (LF3t.out.turn ht HD3t.out.lo HD3t.out.lt)
 have HB4 : Hid (Below B w w7) := HBt3.out.trans (ht.below HD3t.out.lo HD3t.out.lt)
 clear ht LF3t HD3t HL3t HBt3 LT3
 have HTK4 := zh (takeF_any prdW g3 B sp4 n4 cap4 ls4 w7 LF4.out.cell.1 LF4.out.cell.2 LF4.out.li (fun q hq => HNE.out q (LS4.out q hq)) LF4.out.cap (by have := LF4.out.nle HLN.out LSL4.out; omega))
 go_wp2_with fail
 refine HTK4.out.mono ?_
 rintro e wt ⟨k, sp5, cap5, hk, rfl, rfl, hl1, hl2, hc2, e1, e2⟩
 have LF4t := zh (LF4.out.take sp5 (n4 - k) cap5 (ls4.drop k) hl2 hc2)
 have HD4t := zh (HD4.out.other LF4.out.box LF4.out.ne LF4.out.b3 (u := .slice sp5 (n4 - k) cap5))
 have HL4t : Hid (LinesIn (w7.setCell ⟨g3, 0, none⟩ (.slice sp5 (n4 - k) cap5)) B sp4 k (ls4.take k)) := hl1.below ((Below.refl B w7).setCell (p := ⟨g3, 0, none⟩) LF4.out.b3 _) (Nat.le_refl _)
 have HBt4 : Hid (Below B w (w7.setCell ⟨g3, 0, none⟩ (.slice sp5 (n4 - k) cap5))) := HB4.out.setCell (p := ⟨g3, 0, none⟩) LF4.out.b3 _
 have LS5 : Hid (∀ q ∈ ls4.drop k, q ∈ ls) := fun q hq => LS4.out q (List.mem_of_mem_drop hq)
 have LT4 : Hid (∀ q ∈ ls4.take k, q ∈ ls) := fun q hq => LS4.out q (List.mem_of_mem_take hq)
 have LSL5 : Hid ((ls4.drop k).length ≤ ls.length) := by show _ ≤ _; rw [List.length_drop]; have := LSL4.out; omega
 have EA4 := zh (e1.trans (congrArg (List.takeWhile (hdT prdW)) EB4.out))
 have EB5 := zh (e2.trans (congrArg (List.dropWhile (hdT prdW)) EB4.out))
 have HK4 : Hid (k ≤ 1000 ∧ (ls4.take k).length = k) := ⟨by have := LF4.out.nle HLN.out LSL4.out; omega, hl1.len⟩
 generalize hls : ls4.drop k = ls5 at *
 generalize hn : n4 - k = n5 at *
 generalize hts : ls4.take k = ts4 at *
 clear hk hl1 hl2 hc2 e1 e2 HTK4 hls hn hts LF4 HD4 HB4 LS4 LSL4 EB4
 generalize World.setCell w7 ⟨g3, 0, none⟩ _ = vq at *
 go_wp2_with fail
 refine (readFiles_any gd B { x3 with m1 := spm, mn := nm, mc := cm, m := lm } m4 v4 prdW sp4 k cap4 ts4 vq HD4t.out HL4t.out HK4.out.1 (fun q hq => by have := (HQ.out q (LT4.out q hq)).2; omega) (fun q hq => HSZ.out q (LT4.out q hq))).mono ?_
 rintro e w8 ⟨spp, np, cp, lp, m5, v5, rfl, ht, hd, ho, hm5, hr5⟩
 rw [EA4.out] at hm5 hr5
 have HM5 := zh hm5; have HR5 := zh hr5
 have HD5 := zh (hd.out.set 7 (.slice spp np cp) { x3 with m1 := spm, mn := nm, mc := cm, m := lm, p1 := spp, pn := np, pc := cp, p := lp } m5 v5 rfl hd.out.c hd.out.v hd.out.m ho.out)
 have cS := (hd.out.cell (j := 7) rfl).1
 have fS := (hd.out.cell (j := 7) rfl).2
 have ht2 : Turn gd vq (w8.setCell ⟨gd, 7, none⟩ (.slice spp np cp)) := ht.trans (Turn.tick _ _ _ _)
 clear hd ho hm5 hr5 ht HK4 EA4
 go_upto_region 9 with fail
 clear cS fS
 generalize World.setCell w8 ⟨gd, 7, none⟩ _ = w9 at *
 have ht := ht2
 clear ht2
 have LF5 := zh (LF4t.out.turn ht HD4t.out.lo HD4t.out.lt)
 have HB5 : Hid (Below B w w9) := HBt4.out.trans (ht.below HD4t.out.lo HD4t.out.lt)
 clear ht LF4t HD4t HL4t HBt4 LT4
 have cB := LF5.out.cell.1
 obtain ⟨f, hf⟩ : ∃ f, f = decide (n5 = 0) := ⟨_, rfl⟩
 have hf2 : ((n5 : Int) == 0) = f := by
  rw [hf]
  by_cases h : n5 = 0
  ·subst h; rfl
  ·rw [decide_eq_false h, beq_eq_false_iff_ne]; omega
 have hf3 : decide ((n5 : Int) = 0) = f := by rw [← hf2]; rfl
 have HN5 : Hid ((wordsOf ls5).length = n5) := by show _ = _; rw [wordsOf_length, LF5.out.li.len]
 have HF := zh hf
 have HRQ := zh (require_any gd B { x3 with m1 := spm, mn := nm, mc := cm, m := lm, p1 := spp, pn := np, pc := cp, p := lp } m5 v5 f w9 HD5.out)
 clear hf
 go_wp2_with fail
 refine HRQ.out.mono ?_
 rintro e wc ⟨rfl, hd, ht⟩
 have HD6 := zh hd
 have LF6 := zh (LF5.out.turn ht HD5.out.lo HD5.out.lt)
 have HB6 : Hid (Below B w wc) := HB5.out.trans (ht.below HD5.out.lo HD5.out.lt)
 clear hd ht HRQ HD5 LF5 HB5 cB hf2 hf3
 have HPL : Hid ((m5 || !f) = !formedR L ∧ ((m5 || !f) = false → (v5 = false → ({ x3 with m1 := spm, mn := nm, mc := cm, m := lm, p1 := spp, pn := np, pc := cp, p := lp } : Rc).pl = recP L) ∧ (v5 = true → (vldE (recP L).m && vldE (recP L).p) = false))) :=
  rdl_plain HM1.out HP1.out HM2.out HP2.out HM3.out HP3.out HM4.out HR4.out HM5.out HR5.out (by rw [HF.out, ← HN5.out, EB5.out]; rfl) rfl
 clear HM1 HP1 HM2 HP2 HM3 HP3 HM4 HR4 HM5 HR5 HF HN5 EB5
 have HV5 : Hid (({ x3 with m1 := spm, mn := nm, mc := cm, m := lm, p1 := spp, pn := np, pc := cp, p := lp } : Rc).c1 = none ∨ ∃ q ∈ ls, ({ x3 with m1 := spm, mn := nm, mc := cm, m := lm, p1 := spp, pn := np, pc := cp, p := lp } : Rc).c1 = slZ q.sp 1 1 q.cap) := HV3.out
 clear HV3
 generalize hx5 : ({ x3 with m1 := spm, mn := nm, mc := cm, m := lm, p1 := spp, pn := np, pc := cp, p := lp } : Rc) = x5 at *
 generalize (m5 || !f) = m6 at *
 clear hx5
 obtain ⟨xr, mr, vr, hres⟩ := LF6.out.res
 have HRS := zh hres
 clear hres
 have HZ : Hid ((wc.setRow g2 (drL x5 m6 v5).toArray).heap[g2]? = some (.cells (drL x5 m6 v5).toArray 70 (0, 0))) := setRow_heap _ _ _ _ _ _ HRS.out
 have HBZ : Hid (Below B w (wc.setRow g2 (drL x5 m6 v5).toArray)) := below_setRow HB6.out LF6.out.b2 _
 have HKR : ∀ (e size n : Nat) (v : Value) (xs : List Value), wc.ownsRow B e size v n xs → e ≠ 70 → (wc.setRow g2 (drL x5 m6 v5).toArray).ownsRow B e size v n xs := fun e size n v xs h he => own_keptQ h fun k cur _ hc => setRow_other _ _ _ _ (by
  rintro rfl
  rw [HRS.out] at hc
  injection hc with hc
  injection hc with _ hc _
  exact he hc.symm)
 have HIN : Hid ((StrsIn (wc.setRow g2 (drL x5 m6 v5).toArray) (wc.setRow g2 (drL x5 m6 v5).toArray).heap.size x5.c1 x5.cn x5.c ∧ (x5.c1 = none ∨ ∃ q ∈ ls, x5.c1 = slZ q.sp 1 1 q.cap)) ∧ ((wc.setRow g2 (drL x5 m6 v5).toArray).ownsRow B 61 2 (.slice x5.v1 x5.vn x5.vc) x5.vn (x5.v.flatMap vrL) ∧ x5.v.length = x5.vn) ∧ (OwnE (wc.setRow g2 (drL x5 m6 v5).toArray) B (.slice x5.m1 x5.mn x5.mc) x5.m ∧ x5.m.length = x5.mn) ∧ (OwnE (wc.setRow g2 (drL x5 m6 v5).toArray) B (.slice x5.p1 x5.pn x5.pc) x5.p ∧ x5.p.length = x5.pn)) :=
  ⟨⟨(HD6.out.c.below (below_setRow (Below.refl B wc) LF6.out.b2 _) (Nat.le_refl _)).more (by rw [setRow_size]; exact Nat.le_of_lt (Nat.lt_of_le_of_lt HD6.out.lo HD6.out.lt)), HV5.out⟩, ⟨HKR _ _ _ _ _ HD6.out.v.1 (by decide), HD6.out.v.2⟩, ⟨⟨HKR _ _ _ _ _ HD6.out.m.1.1 (by decide), HD6.out.m.1.2⟩, HD6.out.m.2⟩, ⟨⟨HKR _ _ _ _ _ HD6.out.p.1.1 (by decide), HD6.out.p.1.2⟩, HD6.out.p.2⟩⟩
 clear HKR LF6 HB6
 go_wp2_with (first
  | (refine wpList_load_row rfl 70 _ rfl gd rfl 70 _ (0, 0) _ HD6.out.row Tryz.underlying70 rfl (infoDrA _ _ _) ?_)
  | (refine wpList_store_row rfl 70 _ _ rfl g2 (drL x5 m6 v5).toArray rfl rfl 70 _ HRS.out (infoDrA _ _ _) rfl (oneDr _ _ _) ?_))
 refine bodyPost_ret (results_row1 rfl _ _ _ _ _ _ _ rfl HZ.out Tryz.underlying70 rfl (infoDrA _ _ _)) rfl ?_
 exact ⟨x5, m6, v5, rfl, by rw [← HBE.out]; exact HIN.out, by rw [← HLW.out]; exact HPL.out.1, by rw [← HLW.out]; exact HPL.out.2, by rw [← HBE.out]; exact HBZ.out⟩
end Go.Proofs.YtecllfbadciaoaaGreatDoor
