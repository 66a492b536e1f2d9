/-
  The walk of the iterator that sideBySide makes: it calls yield with the pairs that two lists have side by side, in their order (conditions: digests of 32 bytes, at most 1000000 elements each; a round that goes on leaves the two lists as they were).
-/
import Derived.Test.YtecllfbadciaoaaGreatDoorZip
import Derived.Test.YtecllfbadciaoaaGreatDoorQ3
import Derived.RangeFuncKeeps
set_option maxRecDepth 100000
set_option maxHeartbeats 8000000
namespace Go.Proofs.YtecllfbadciaoaaGreatDoor
open Go.RowKit
theorem CgsIn.at {w : World} {B g off n cap : Nat} {l : List Cg} (h : CgsIn w B (some ⟨g, off, none⟩) n cap l) {i : Nat} {x : Cg} (hi : l[i]? = some x) : g < B ∧ w.rangeAt g (off + i * 65) (cgL x) := by
 have hl := (List.getElem?_eq_some_iff.1 hi).1
 obtain ⟨b, o, e, hb, _, hr⟩ := h.cells (by have := h.len; omega)
 injection e with e; injection e with e1 e2; subst e1 e2
 exact ⟨hb, hr i x hi⟩
theorem rng_p {w : World} {g o : Nat} {x : Cg} (h : w.rangeAt g o (cgL x)) : w.cell? ⟨g, o, none⟩ = some (.string x.p) := h 0 _ rfl
theorem rng_sub {w : World} {g o : Nat} {cs : List Value} (h : w.rangeAt g o cs) (k : Nat) (sub : List Value) (hs : ∀ j v, sub[j]? = some v → cs[k + j]? = some v) : w.rangeAt g (o + k) sub := by
 intro j v hv
 have := h (k + j) v (hs j v hv)
 show w.cell? ⟨g, o + k + j, none⟩ = some v
 rw [Nat.add_assoc]; exact this
theorem rng_o {w : World} {g o : Nat} {x : Cg} (h : w.rangeAt g o (cgL x)) : w.rangeAt g (o + 1) (x.o.map (Value.int .u8)) := rng_sub h 1 _ (fun j v hv => by
 have hj := (List.getElem?_eq_some_iff.1 hv).1
 unfold cgL; rw [Nat.add_comm, List.getElem?_cons_succ, List.getElem?_append_left hj]; exact hv)
theorem rng_n {w : World} {g o : Nat} {x : Cg} (h : w.rangeAt g o (cgL x)) (hx : OkC x) : w.rangeAt g (o + 33) (x.n.map (Value.int .u8)) := rng_sub h 33 _ (fun j v hv => by
 unfold cgL; rw [show 33 + j = (32 + j) + 1 by omega, List.getElem?_cons_succ, List.getElem?_append_right (by rw [List.length_map, hx.1.1]; omega), List.length_map, hx.1.1, Nat.add_sub_cancel_left]; exact hv)
structure SbIn (w : World) (B ba bb : Nat) (spa : Option Addr) (na ca : Nat) (a : List Cg) (spb : Option Addr) (nb cb : Nat) (b : List Cg) : Prop where
 pa : w.cell? ⟨ba, 0, none⟩ = some (.slice spa na ca)
 pb : w.cell? ⟨bb, 0, none⟩ = some (.slice spb nb cb)
 la : CgsIn w B spa na ca a
 lb : CgsIn w B spb nb cb b
def Keep3 (B ba bb : Nat) (W W' : World) : Prop := W.heap.size ≤ W'.heap.size ∧ (∀ k, k < B → W'.heap[k]? = W.heap[k]?) ∧ W'.heap[ba]? = W.heap[ba]? ∧ W'.heap[bb]? = W.heap[bb]?
theorem Keep3.trans {B ba bb : Nat} {X Y Z : World} (h : Keep3 B ba bb X Y) (k : Keep3 B ba bb Y Z) : Keep3 B ba bb X Z := ⟨Nat.le_trans h.1 k.1, fun i hi => (k.2.1 i hi).trans (h.2.1 i hi), k.2.2.1.trans h.2.2.1, k.2.2.2.trans h.2.2.2⟩
theorem Keep3.of_below {B ba bb M : Nat} {X Y : World} (h : Below M X Y) (h1 : B ≤ M) (h2 : ba < M) (h3 : bb < M) : Keep3 B ba bb X Y := ⟨h.size, fun k hk => h.block k (by omega), h.block _ h2, h.block _ h3⟩
theorem CgsIn.keep {w w' : World} {B : Nat} {sp : Option Addr} {n cap : Nat} {l : List Cg} (h : CgsIn w B sp n cap l) (hk : ∀ k, k < B → w'.heap[k]? = w.heap[k]?) : CgsIn w' B sp n cap l :=
 ⟨h.len, h.ok, fun hn => by
  obtain ⟨b, off, e, hlt, hc, hr⟩ := h.cells hn
  exact ⟨b, off, e, hlt, hc, fun i x hi j v hv => (World.cell?_of_block (a := ⟨b, off + i * 65 + j, none⟩) (hk b hlt)).trans (hr i x hi j v hv)⟩⟩
theorem SbIn.keep {w w' : World} {B ba bb : Nat} {spa : Option Addr} {na ca : Nat} {a : List Cg} {spb : Option Addr} {nb cb : Nat} {b : List Cg} (h : SbIn w B ba bb spa na ca a spb nb cb b) (hk : Keep3 B ba bb w w') : SbIn w' B ba bb spa na ca a spb nb cb b :=
 ⟨(World.cell?_of_block (a := ⟨ba, 0, none⟩) hk.2.2.1).trans h.pa, (World.cell?_of_block (a := ⟨bb, 0, none⟩) hk.2.2.2).trans h.pb, h.la.keep hk.2.1, h.lb.keep hk.2.1⟩
abbrev CP := { q : Cg × Cg // OkC q.1 ∧ OkC q.2 }
def encP (q : CP) : Array Value := #[.agg (cgL q.1.1).toArray, .agg (cgL q.1.2).toArray]
structure TwoB (wr w : World) (cx cy : Array Value) : Prop where
 b : Below wr.heap.size wr w
 x : w.heap[wr.heap.size]? = some (.cells cx 86 (0, 0))
 y : w.heap[wr.heap.size + 1]? = some (.cells cy 86 (0, 0))
theorem TwoB.new (wr : World) (cx cy : Array Value) : TwoB wr ((wr.alloc (.cells cx 86)).alloc (.cells cy 86)) cx cy :=
 ⟨((Below.refl _ wr).alloc (Nat.le_refl _) _).alloc (by simp) _, (Below.heap_alloc _ _ _ (by simp)).trans (heap_alloc_new wr _), by
   have := heap_alloc_new (wr.alloc (.cells cx 86)) (.cells cy 86); rwa [World.size_alloc] at this⟩
theorem TwoB.size {wr w : World} {cx cy : Array Value} (h : TwoB wr w cx cy) : wr.heap.size + 1 < w.heap.size := (Array.getElem?_eq_some_iff.1 h.y).1
theorem TwoB.next {wr w w' : World} {cx cy : Array Value} (h : TwoB wr w cx cy) (hb : Below w.heap.size w w') : TwoB wr w' cx cy :=
 ⟨h.b.trans (hb.mono h.b.size), (hb.block _ (by have := h.size; omega)).trans h.x, (hb.block _ h.size).trans h.y⟩
theorem TwoB.setx {wr w : World} {cx cy : Array Value} (h : TwoB wr w cx cy) (c : Array Value) : TwoB wr (w.setRow wr.heap.size c) c cy :=
 ⟨below_setRow h.b (Nat.le_refl _) c, setRow_heap _ _ _ _ _ _ h.x, (setRow_other _ _ _ _ (by omega)).trans h.y⟩
theorem TwoB.sety {wr w : World} {cx cy : Array Value} (h : TwoB wr w cx cy) (c : Array Value) : TwoB wr (w.setRow (wr.heap.size + 1) c) cx c :=
 ⟨below_setRow h.b (by omega) c, (setRow_other _ _ _ _ (by omega)).trans h.x, setRow_heap _ _ _ _ _ _ h.y⟩
theorem wpListIn_load_rowS {F : Fence} {n : Nat} {P : Program} {ops : Array Oper} {rest : List Oper} {o : Oper} {a : Act} {w : World} {Q : Exit → Act → World → Prop} (hgd : o.guard = none) (ty : TypeId) (x : Operand) (ho : o.op = .load ty x)
 (g : Nat) (hx : a.eval x = .pointer (some ⟨g, 0, none⟩)) (t : TypeId) (cs : Array Value) (fr : Nat × Nat) (d : TypeDesc) (hg : w.heap[g]? = some (.cells cs t fr))
 (hu : P.underlying ty = some d) (hd : (match d with | .struct _ | .array _ _ => true | _ => false) = true) (hi : (P.info? ty).map (·.size) = some cs.size)
 (h : wpListIn F n P ops Q rest (a.put o.dst (.agg cs)) w) : wpListIn F n P ops Q (o :: rest) a w := by
 refine wpListIn_plain hgd fun K hK => ?_
 unfold Oper.wpIn
 refine ⟨?_, ?_⟩
 ·simp [Oper.about, ho]
 ·rw [Oper.semAt_plain F _ _ (by rw [ho]; intro c hc'; cases hc')]
  unfold execOp
  simp only [ho, hx, Instr.loadAt, Instr.sureAddr, Sem.run_bind, Sem.run_pure, Result.andThen_ok, run_loadVar_row w g t ty cs fr d hg hu hd hi]
  exact hK _ _ h
theorem drop_atS {l : List Cg} {i : Nat} {x : Cg} (h : l[i]? = some x) : l.drop i = x :: l.drop (i + 1) := by
 have hl := (List.getElem?_eq_some_iff.1 h).1
 rw [List.drop_eq_getElem_cons hl]; congr 1; exact (List.getElem?_eq_some_iff.1 h).2
theorem sbs_A {a b : List Cg} {i j : Nat} {x : Cg} (hx : a[i]? = some x) (h : b.drop j = [] ∨ ∃ y, b[j]? = some y ∧ pls x.p y.p = true) : sbs (a.drop i) (b.drop j) = (x, kp x.p x.n) :: sbs (a.drop (i + 1)) (b.drop j) := by
 rw [drop_atS hx]
 rcases h with h | ⟨y, hy, h⟩
 ·rw [h, sbs_nil_right, sbs_nil_right]; rfl
 ·rw [drop_atS hy, sbs_lt h]
theorem sbs_B {a b : List Cg} {i j : Nat} {y : Cg} (hy : b[j]? = some y) (h : a.drop i = [] ∨ ∃ x, a[i]? = some x ∧ pls x.p y.p = false ∧ pls y.p x.p = true) : sbs (a.drop i) (b.drop j) = (kp y.p y.o, y) :: sbs (a.drop i) (b.drop (j + 1)) := by
 rw [drop_atS hy]
 rcases h with h | ⟨x, hx, h1, h2⟩
 ·rw [h, sbs_nil, sbs_nil]; rfl
 ·rw [drop_atS hx, sbs_gt h1 h2]
theorem sbs_C {a b : List Cg} {i j : Nat} {x y : Cg} (hx : a[i]? = some x) (hy : b[j]? = some y) (h1 : pls x.p y.p = false) (h2 : pls y.p x.p = false) : sbs (a.drop i) (b.drop j) = (x, y) :: sbs (a.drop (i + 1)) (b.drop (j + 1)) := by
 rw [drop_atS hx, drop_atS hy, sbs_eq h1 h2]
theorem sbs_go {a b : List Cg} {pre : List CP} {i j i' j' : Nat} {q : Cg × Cg} (h : sbs a b = pre.map (·.1) ++ sbs (a.drop i) (b.drop j)) (hq : sbs (a.drop i) (b.drop j) = q :: sbs (a.drop i') (b.drop j')) (ok : OkC q.1 ∧ OkC q.2) :
 sbs a b = (pre ++ [(⟨q, ok⟩ : CP)]).map (·.1) ++ sbs (a.drop i') (b.drop j') := by rw [h, hq, List.map_append, List.append_assoc]; rfl
theorem sbs_in (n l B ba bb : Nat) (spa : Option Addr) (na ca : Nat) (a : List Cg) (spb : Option Addr) (nb cb : Nat) (b : List Cg) (hn : 1 ≤ n) (hna : na ≤ 1000000) (hnb : nb ≤ 1000000) (J Jx : List CP → World → Prop) (W0 : World)
 (hB : B ≤ W0.heap.size) (hba : ba < W0.heap.size) (hbb : bb < W0.heap.size)
 (hJ : ∀ pre W W', J pre W → Below W.heap.size W W' → J pre W')
 (hY : ∀ pre x W, J pre W → pre.length < (sbs a b).length → YieldAt Fence.wide (n - 1) Tryz.prog l (encP x) W fun e W' => (e = .returned (.bool true) ∧ J (pre ++ [x]) W' ∧ Keep3 B ba bb W W') ∨ (e = .returned (.bool false) ∧ Jx (pre ++ [x]) W'))
 (hc : SbIn W0 B ba bb spa na ca a spb nb cb b) (h0 : J [] W0) :
 CallsIn Fence.wide n Tryz.prog 117 #[.func (.yield l) #[] #[], .pointer (some ⟨ba, 0, none⟩), .pointer (some ⟨bb, 0, none⟩)] W0 fun e W' =>
  (∃ v, e = .returned v) ∧ ((∃ xs, xs.map (·.1) = sbs a b ∧ J xs W') ∨ (∃ pre, pre.map (·.1) <+: sbs a b ∧ Jx pre W')) := by
 have HJ := zh hJ; have HY := zh hY
 clear hJ hY
 refine callsIn_of_wp Tryz.func117 rfl trivial ?_ rfl
 simp only [Tryz.ntmps117, List.size_toArray, List.length_cons, List.length_nil, Nat.reduceAdd, Nat.reduceSub, Array.replicate_succ, Array.replicate_zero, List.push_toArray, List.append_toArray, List.nil_append, List.cons_append]
 gi_wp2
 gi_loopw [4, 5] (fun u v wr => ∃ (i j : Nat) (pre : List CP), i ≤ na ∧ j ≤ nb ∧ u = .int .i64 i ∧ v = .int .i64 j ∧ Hid (sbs a b = pre.map (·.1) ++ sbs (a.drop i) (b.drop j)) ∧ Hid (J pre wr) ∧ Hid (SbIn wr B ba bb spa na ca a spb nb cb b) ∧ W0.heap.size ≤ wr.heap.size) (fun u v _ => na + nb - (intOf u).toNat - (intOf v).toNat)
 case atStart => exact ⟨0, 0, [], Nat.zero_le _, Nat.zero_le _, rfl, rfl, rfl, h0, hc, Nat.le_refl _⟩
 case round =>
  clear hc h0
  obtain ⟨i, j, pre, hi, hj, rfl, rfl, HS, HJr, HC, hsz⟩ := hrel
  have hpa := HC.out.pa
  have hpb := HC.out.pb
  have hB' : B ≤ wr.heap.size := by omega
  have hba' : ba < wr.heap.size := by omega
  have hbb' : bb < wr.heap.size := by omega
  have p1 : (0 : Int) ≤ (i : Int) := by omega
  have p3 : (0 : Int) ≤ (j : Int) := by omega
  have s1 : IntKind.i64.wrap (i : Int) = (i : Int) := IntWalk.i64_in _ (by omega)
  have s2 : IntKind.i64.wrap (j : Int) = (j : Int) := IntWalk.i64_in _ (by omega)
  by_cases hia : i < na
  ·have hd1 : decide ((i : Int) < (na : Int)) = true := by simp; omega
   have p2 : (i : Int) < (na : Int) := by omega
   obtain ⟨g1, o1, rfl, -, -, -⟩ := HC.out.la.cells (by omega)
   obtain ⟨x, hx⟩ : ∃ x, a[i]? = some x := ⟨a[i]'(by have := HC.out.la.len; omega), List.getElem?_eq_getElem _⟩
   have HOX := zh (HC.out.la.ok x (List.mem_of_getElem? hx))
   have HX := zh hx; clear hx
   have HDN := zh HOX.out.2
   by_cases hjb : j < nb
   ·have hd2 : decide ((j : Int) < (nb : Int)) = true := by simp; omega
    have hd3 : ((j : Int) == (nb : Int)) = false := by simp; omega
    have hd4 : ((i : Int) == (na : Int)) = false := by simp; omega
    have p4 : (j : Int) < (nb : Int) := by omega
    obtain ⟨g2, o2, rfl, -, -, -⟩ := HC.out.lb.cells (by omega)
    obtain ⟨y, hy⟩ : ∃ y, b[j]? = some y := ⟨b[j]'(by have := HC.out.lb.len; omega), List.getElem?_eq_getElem _⟩
    have HOY := zh (HC.out.lb.ok y (List.mem_of_getElem? hy))
    have HYy := zh hy; clear hy
    have HDO := zh HOY.out.1
    by_cases hxy : pls x.p y.p = true
    ·have hd5 : Op.bytesLess x.p.toList y.p.toList = true := hxy
     have HXY := zh hxy; clear hxy
     gi_wp2_with fail
     generalize hw1 : World.alloc (World.alloc wr _) _ = w1
     have HT1 : Hid (TwoB wr w1 Tryz.zeroCells86 Tryz.zeroCells86) := by show TwoB _ _ _ _; rw [← hw1]; exact TwoB.new _ _ _
     have HC1 := zh (HC.out.keep (Keep3.of_below HT1.out.b hB' hba' hbb'))
     clear hw1 hpa hpb
     have hpa := HC1.out.pa
     have hpb := HC1.out.pb
     have HOK : Hid (OkC x ∧ OkC (kp x.p x.n)) := ⟨HOX.out, HOX.out.2, HOX.out.2⟩
     have HI1 : Hid ((Tryz.prog.info? 86).map (·.size) = some (cgL x).toArray.size) := by show _ = _; rw [List.size_toArray]; exact info_c HOK.out.1
     have HI1s : Hid (65 = (cgL x).toArray.size) := by show _ = _; rw [List.size_toArray]; exact (cgL_length HOK.out.1).symm
     have HI2 : Hid ((Tryz.prog.info? 86).map (·.size) = some (cgL (kp x.p x.n)).toArray.size) := by show _ = _; rw [List.size_toArray]; exact info_c HOK.out.2
     have HI2s : Hid (65 = (cgL (kp x.p x.n)).toArray.size) := by show _ = _; rw [List.size_toArray]; exact (cgL_length HOK.out.2).symm
     have hxp := rng_p (HC1.out.la.at HX.out).2
     have hyp := rng_p (HC1.out.lb.at HYy.out).2
     refine wpIn_wide.2 ?_
     go_quiet (fail)
     have hbq : Below w1.heap.size w1 (w1.drewN nq) := ⟨rfl, rfl, rfl, Nat.le_refl _, fun _ _ => rfl⟩
     have HT2 := zh (HT1.out.next hbq)
     clear hbq
     generalize World.drewN w1 nq = w2 at HT2 ⊢
     have HC2 := zh (HC.out.keep (Keep3.of_below HT2.out.b hB' hba' hbb'))
     have HT2d := zh (HT2.out.next ((Below.refl w2.heap.size w2).drew))
     have HC2d := zh (HC.out.keep (Keep3.of_below HT2d.out.b hB' hba' hbb'))
     have hz2 := HT2.out.size
     have hB2 : B ≤ w2.drew.heap.size := by show B ≤ w2.heap.size; omega
     have hba2 : ba < w2.drew.heap.size := by show ba < w2.heap.size; omega
     have hbb2 : bb < w2.drew.heap.size := by show bb < w2.heap.size; omega
     gi_wp2_with fail
     refine wpIn_wide.2 ?_
     refine wp_region_held_drew (S := fun w' => SbIn w' B ba bb (some ⟨g1, o1, none⟩) na ca a (some ⟨g2, o2, none⟩) nb cb b) (by kernel_rfl) HC2d.out (fun hHeld => ?_)
     refine zx 0 rfl (v := ?_) ?_ ?_; rotate_left
     ·intro w' hSw; have h1 := hSw.pa; go_simp; try with_reducible rfl
     refine zv 1 rfl ?_
     refine zv 2 rfl ?_
     refine' zk 3 rfl (v := _) (yieldsIf_load_mid (by rfl) _ _ rfl _ _ rfl _ _ ?hS3n4 Tryz.underlying86 rfl (info_c HOX.out)) ?rest3n4
     case hS3n4 =>
      intro w' hSw
      exact (hSw.la.at HX.out).2
     try simp only [Act.put, zuA, zuB, zuC, zuD, zuY, zuF]
     refine zx 4 rfl (v := ?_) ?_ ?_; rotate_left
     ·intro w' hSw; have h1 := hSw.pa; go_simp; try with_reducible rfl
     refine zv 5 rfl ?_
     refine zv 6 rfl ?_
     refine zv 7 rfl ?_
     refine zx 8 rfl (v := ?_) ?_ ?_; rotate_left
     ·intro w' hSw; have h1 := rng_p (hSw.la.at HX.out).2; go_simp; try with_reducible rfl
     refine zx 9 rfl (v := ?_) ?_ ?_; rotate_left
     ·intro w' hSw; have h1 := hSw.pa; go_simp; try with_reducible rfl
     refine zv 10 rfl ?_
     refine zv 11 rfl ?_
     refine zv 12 rfl ?_
     refine' zk 13 rfl (v := _) (yieldsIf_load_mid (by rfl) _ _ rfl _ _ rfl _ _ ?hS13n14 Tryz.underlying80 rfl (info_d HOX.out.2)) ?rest13n14
     case hS13n14 =>
      intro w' hSw
      exact rng_n (hSw.la.at HX.out).2 HOX.out
     try simp only [Act.put, zuA, zuB, zuC, zuD, zuY, zuF]
     refine zr 14 rfl (fun K hK => ?_)
     go_simp
     with_reducible refine (kept_any x.p x.n _ HDN.out).mono ?_
     rintro e w3 ⟨rfl, hb3⟩
     go_wp2_with fail
     refine hK.out _ _ (HC2d.out.keep (Keep3.of_below hb3 hB2 hba2 hbb2)) fun _ => ?_; clear hK K
     try simp only [Act.put, zuA, zuB, zuC, zuD, zuY, zuF]
     have HT3 := zh (HT2d.out.next hb3)
     clear hb3
     refine zr 15 rfl (fun K hK => ?_)
     rw [if_pos (by rfl)]
     refine wp_store_row 86 _ _ rfl (wr.heap.size) _ rfl rfl 86 Tryz.zeroCells86 HT3.out.x HI1.out ((rfl : (Tryz.zeroCells86).size = 65).trans HI1s.out) (cgA_one x) ?_
     have HT4 := zh (HT3.out.setx (cgL x).toArray)
     generalize World.setRow _ _ _ = w4 at HT4 ⊢
     have HS4 := zh (HC.out.keep (Keep3.of_below HT4.out.b hB' hba' hbb'))
     refine hK.out _ _ HS4.out fun _ => ?_; clear hK K
     try simp only [Act.put, zuA, zuB, zuC, zuD, zuY, zuF]
     refine zr 16 rfl (fun K hK => ?_)
     rw [if_pos (by rfl)]
     refine wp_store_row 86 _ _ rfl (wr.heap.size + 1) _ rfl rfl 86 Tryz.zeroCells86 HT4.out.y HI2.out ((rfl : (Tryz.zeroCells86).size = 65).trans HI2s.out) (cgA_one (kp x.p x.n)) ?_
     have HT5 := zh (HT4.out.sety (cgL (kp x.p x.n)).toArray)
     generalize World.setRow _ _ _ = w5 at HT5 ⊢
     clear HS4
     have HS4 := zh (HC.out.keep (Keep3.of_below HT5.out.b hB' hba' hbb'))
     refine hK.out _ _ HS4.out fun _ => ?_; clear hK K
     try simp only [Act.put, zuA, zuB, zuC, zuD, zuY, zuF]
     refine zd ?_ _
     have HQ := zh (sbs_go HS.out (sbs_A HX.out (.inr ⟨y, HYy.out, HXY.out⟩)) HOK.out)
     obtain ⟨fn, tmps, assign, body, hy, hR⟩ := HY.out pre ⟨(x, kp x.p x.n), HOK.out⟩ w5 (HJ.out pre wr w5 HJr.out HT5.out.b) (by rw [HQ.out, List.map_append, List.length_append, List.length_append]; simp; omega)
     simp only [encP] at hy
     gi_wp2_with (first
      | (refine wpListIn_load_rowS rfl 86 _ rfl (wr.heap.size + 1) rfl _ _ _ _ HT5.out.y Tryz.underlying86 rfl HI2.out ?_)
      | (refine wpListIn_load_rowS rfl 86 _ rfl wr.heap.size rfl _ _ _ _ HT5.out.x Tryz.underlying86 rfl HI1.out ?_))
     refine hR.mono ?_
     have hz5 := HT5.out.size
     clear hR hy
     rintro e W6 (⟨rfl, hJ6, hk6⟩ | ⟨rfl, hJx6⟩)
     ·have HJ6 := zh hJ6
      have HC6 := zh (HS4.out.keep hk6)
      have hz6 := hk6.1
      clear hJ6 hk6
      gi_wp2
      go_roundw
      case rel => exact ⟨i + 1, j, pre ++ [⟨(x, kp x.p x.n), HOK.out⟩], by omega, by omega, by first | rfl | go_num, by first | rfl | go_num, HQ, HJ6, HC6, by omega⟩
      case measure => simp [intOf]; omega
     ·have HJx6 := zh hJx6
      clear hJx6
      gi_wp2
      refine bodyPost_ret (results_none rfl _ _ _) rfl ?_
      exact ⟨⟨_, rfl⟩, .inr ⟨pre ++ [⟨(x, kp x.p x.n), HOK.out⟩], ⟨_, HQ.out.symm⟩, HJx6.out⟩⟩
    ·have hxy : pls x.p y.p = false := by simpa using hxy
     have hd5 : Op.bytesLess x.p.toList y.p.toList = false := hxy
     have HXY := zh hxy; clear hxy
     by_cases hyx : pls y.p x.p = true
     ·have hd6 : Op.bytesLess y.p.toList x.p.toList = true := hyx
      have HYX := zh hyx; clear hyx
      gi_wp2_with fail
      generalize hw1 : World.alloc (World.alloc wr _) _ = w1
      have HT1 : Hid (TwoB wr w1 Tryz.zeroCells86 Tryz.zeroCells86) := by show TwoB _ _ _ _; rw [← hw1]; exact TwoB.new _ _ _
      have HC1 := zh (HC.out.keep (Keep3.of_below HT1.out.b hB' hba' hbb'))
      clear hw1 hpa hpb
      have hpa := HC1.out.pa
      have hpb := HC1.out.pb
      have HOK : Hid (OkC (kp y.p y.o) ∧ OkC y) := ⟨⟨HOY.out.1, HOY.out.1⟩, HOY.out⟩
      have HI1 : Hid ((Tryz.prog.info? 86).map (·.size) = some (cgL (kp y.p y.o)).toArray.size) := by show _ = _; rw [List.size_toArray]; exact info_c HOK.out.1
      have HI1s : Hid (65 = (cgL (kp y.p y.o)).toArray.size) := by show _ = _; rw [List.size_toArray]; exact (cgL_length HOK.out.1).symm
      have HI2 : Hid ((Tryz.prog.info? 86).map (·.size) = some (cgL y).toArray.size) := by show _ = _; rw [List.size_toArray]; exact info_c HOK.out.2
      have HI2s : Hid (65 = (cgL y).toArray.size) := by show _ = _; rw [List.size_toArray]; exact (cgL_length HOK.out.2).symm
      have hxp := rng_p (HC1.out.la.at HX.out).2
      have hyp := rng_p (HC1.out.lb.at HYy.out).2
      refine wpIn_wide.2 ?_
      go_quiet (fail)
      have hbq : Below w1.heap.size w1 (w1.drewN nq) := ⟨rfl, rfl, rfl, Nat.le_refl _, fun _ _ => rfl⟩
      have HT2 := zh (HT1.out.next hbq)
      clear hbq
      generalize World.drewN w1 nq = w2 at HT2 ⊢
      clear HT1 HC1 hpa hpb hxp hyp
      clear w1
      rename World => w1
      have HT1 := HT2
      clear HT2
      have HC1 := zh (HC.out.keep (Keep3.of_below HT1.out.b hB' hba' hbb'))
      have hpa := HC1.out.pa
      have hpb := HC1.out.pb
      have hxp := rng_p (HC1.out.la.at HX.out).2
      have hyp := rng_p (HC1.out.lb.at HYy.out).2
      gi_wp2_with fail
      refine wpIn_wide.2 ?_
      go_quiet (fail)
      have hbq : Below w1.heap.size w1 (w1.drewN nq) := ⟨rfl, rfl, rfl, Nat.le_refl _, fun _ _ => rfl⟩
      have HT2 := zh (HT1.out.next hbq)
      clear hbq
      generalize World.drewN w1 nq = w2 at HT2 ⊢
      have HC2 := zh (HC.out.keep (Keep3.of_below HT2.out.b hB' hba' hbb'))
      have HT2d := zh (HT2.out.next ((Below.refl w2.heap.size w2).drew))
      have HC2d := zh (HC.out.keep (Keep3.of_below HT2d.out.b hB' hba' hbb'))
      have hz2 := HT2.out.size
      have hB2 : B ≤ w2.drew.heap.size := by show B ≤ w2.heap.size; omega
      have hba2 : ba < w2.drew.heap.size := by show ba < w2.heap.size; omega
      have hbb2 : bb < w2.drew.heap.size := by show bb < w2.heap.size; omega
      gi_wp2_with fail
      refine wpIn_wide.2 ?_
      refine wp_region_held_drew (S := fun w' => SbIn w' B ba bb (some ⟨g1, o1, none⟩) na ca a (some ⟨g2, o2, none⟩) nb cb b) (by kernel_rfl) HC2d.out (fun hHeld => ?_)
      refine zx 0 rfl (v := ?_) ?_ ?_; rotate_left
      ·intro w' hSw; have h1 := hSw.pb; go_simp; try with_reducible rfl
      refine zv 1 rfl ?_
      refine zv 2 rfl ?_
      refine zv 3 rfl ?_
      refine zx 4 rfl (v := ?_) ?_ ?_; rotate_left
      ·intro w' hSw; have h1 := rng_p (hSw.lb.at HYy.out).2; go_simp; try with_reducible rfl
      refine zx 5 rfl (v := ?_) ?_ ?_; rotate_left
      ·intro w' hSw; have h1 := hSw.pb; go_simp; try with_reducible rfl
      refine zv 6 rfl ?_
      refine zv 7 rfl ?_
      refine zv 8 rfl ?_
      refine' zk 9 rfl (v := _) (yieldsIf_load_mid (by rfl) _ _ rfl _ _ rfl _ _ ?hS9n24 Tryz.underlying80 rfl (info_d HOY.out.1)) ?rest9n24
      case hS9n24 =>
       intro w' hSw
       exact rng_o (hSw.lb.at HYy.out).2
      try simp only [Act.put, zuA, zuB, zuC, zuD, zuY, zuF]
      refine zx 11 rfl (v := ?_) ?_ ?_; rotate_left
      ·intro w' hSw; have h1 := hSw.pb; go_simp; try with_reducible rfl
      refine zv 12 rfl ?_
      refine zv 13 rfl ?_
      refine' zk 14 rfl (v := _) (yieldsIf_load_mid (by rfl) _ _ rfl _ _ rfl _ _ ?hS14n28 Tryz.underlying86 rfl (info_c HOY.out)) ?rest14n28
      case hS14n28 =>
       intro w' hSw
       exact (hSw.lb.at HYy.out).2
      try simp only [Act.put, zuA, zuB, zuC, zuD, zuY, zuF]
      refine zr 10 rfl (fun K hK => ?_)
      go_simp
      with_reducible refine (kept_any y.p y.o _ HDO.out).mono ?_
      rintro e w3 ⟨rfl, hb3⟩
      go_wp2_with fail
      refine hK.out _ _ (HC2d.out.keep (Keep3.of_below hb3 hB2 hba2 hbb2)) fun _ => ?_; clear hK K
      try simp only [Act.put, zuA, zuB, zuC, zuD, zuY, zuF]
      have HT3 := zh (HT2d.out.next hb3)
      clear hb3
      refine zr 15 rfl (fun K hK => ?_)
      rw [if_pos (by rfl)]
      refine wp_store_row 86 _ _ rfl (wr.heap.size) _ rfl rfl 86 Tryz.zeroCells86 HT3.out.x HI1.out ((rfl : (Tryz.zeroCells86).size = 65).trans HI1s.out) (cgA_one (kp y.p y.o)) ?_
      have HT4 := zh (HT3.out.setx (cgL (kp y.p y.o)).toArray)
      generalize World.setRow _ _ _ = w4 at HT4 ⊢
      have HS4 := zh (HC.out.keep (Keep3.of_below HT4.out.b hB' hba' hbb'))
      refine hK.out _ _ HS4.out fun _ => ?_; clear hK K
      try simp only [Act.put, zuA, zuB, zuC, zuD, zuY, zuF]
      refine zr 16 rfl (fun K hK => ?_)
      rw [if_pos (by rfl)]
      refine wp_store_row 86 _ _ rfl (wr.heap.size + 1) _ rfl rfl 86 Tryz.zeroCells86 HT4.out.y HI2.out ((rfl : (Tryz.zeroCells86).size = 65).trans HI2s.out) (cgA_one y) ?_
      have HT5 := zh (HT4.out.sety (cgL y).toArray)
      generalize World.setRow _ _ _ = w5 at HT5 ⊢
      clear HS4
      have HS4 := zh (HC.out.keep (Keep3.of_below HT5.out.b hB' hba' hbb'))
      refine hK.out _ _ HS4.out fun _ => ?_; clear hK K
      try simp only [Act.put, zuA, zuB, zuC, zuD, zuY, zuF]
      refine zd ?_ _
      have HQ := zh (sbs_go HS.out (sbs_B HYy.out (.inr ⟨x, HX.out, HXY.out, HYX.out⟩)) HOK.out)
      obtain ⟨fn, tmps, assign, body, hy, hR⟩ := HY.out pre ⟨(kp y.p y.o, y), HOK.out⟩ w5 (HJ.out pre wr w5 HJr.out HT5.out.b) (by rw [HQ.out, List.map_append, List.length_append, List.length_append]; simp; omega)
      simp only [encP] at hy
      gi_wp2_with (first
       | (refine wpListIn_load_rowS rfl 86 _ rfl (wr.heap.size + 1) rfl _ _ _ _ HT5.out.y Tryz.underlying86 rfl HI2.out ?_)
       | (refine wpListIn_load_rowS rfl 86 _ rfl wr.heap.size rfl _ _ _ _ HT5.out.x Tryz.underlying86 rfl HI1.out ?_))
      refine hR.mono ?_
      have hz5 := HT5.out.size
      clear hR hy
      rintro e W6 (⟨rfl, hJ6, hk6⟩ | ⟨rfl, hJx6⟩)
      ·have HJ6 := zh hJ6
       have HC6 := zh (HS4.out.keep hk6)
       have hz6 := hk6.1
       clear hJ6 hk6
       gi_wp2
       go_roundw
       case rel => exact ⟨i, j + 1, pre ++ [⟨(kp y.p y.o, y), HOK.out⟩], by omega, by omega, by first | rfl | go_num, by first | rfl | go_num, HQ, HJ6, HC6, by omega⟩
       case measure => simp [intOf]; omega
      ·have HJx6 := zh hJx6
       clear hJx6
       gi_wp2
       refine bodyPost_ret (results_none rfl _ _ _) rfl ?_
       exact ⟨⟨_, rfl⟩, .inr ⟨pre ++ [⟨(kp y.p y.o, y), HOK.out⟩], ⟨_, HQ.out.symm⟩, HJx6.out⟩⟩
     ·have hyx : pls y.p x.p = false := by simpa using hyx
      have hd6 : Op.bytesLess y.p.toList x.p.toList = false := hyx
      have HYX := zh hyx; clear hyx
      gi_wp2_with fail
      generalize hw1 : World.alloc (World.alloc wr _) _ = w1
      have HT1 : Hid (TwoB wr w1 Tryz.zeroCells86 Tryz.zeroCells86) := by show TwoB _ _ _ _; rw [← hw1]; exact TwoB.new _ _ _
      have HC1 := zh (HC.out.keep (Keep3.of_below HT1.out.b hB' hba' hbb'))
      clear hw1 hpa hpb
      have hpa := HC1.out.pa
      have hpb := HC1.out.pb
      have HOK : Hid (OkC x ∧ OkC y) := ⟨HOX.out, HOY.out⟩
      have HI1 : Hid ((Tryz.prog.info? 86).map (·.size) = some (cgL x).toArray.size) := by show _ = _; rw [List.size_toArray]; exact info_c HOK.out.1
      have HI1s : Hid (65 = (cgL x).toArray.size) := by show _ = _; rw [List.size_toArray]; exact (cgL_length HOK.out.1).symm
      have HI2 : Hid ((Tryz.prog.info? 86).map (·.size) = some (cgL y).toArray.size) := by show _ = _; rw [List.size_toArray]; exact info_c HOK.out.2
      have HI2s : Hid (65 = (cgL y).toArray.size) := by show _ = _; rw [List.size_toArray]; exact (cgL_length HOK.out.2).symm
      have hxp := rng_p (HC1.out.la.at HX.out).2
      have hyp := rng_p (HC1.out.lb.at HYy.out).2
      refine wpIn_wide.2 ?_
      go_quiet (fail)
      have hbq : Below w1.heap.size w1 (w1.drewN nq) := ⟨rfl, rfl, rfl, Nat.le_refl _, fun _ _ => rfl⟩
      have HT2 := zh (HT1.out.next hbq)
      clear hbq
      generalize World.drewN w1 nq = w2 at HT2 ⊢
      clear HT1 HC1 hpa hpb hxp hyp
      clear w1
      rename World => w1
      have HT1 := HT2
      clear HT2
      have HC1 := zh (HC.out.keep (Keep3.of_below HT1.out.b hB' hba' hbb'))
      have hpa := HC1.out.pa
      have hpb := HC1.out.pb
      have hxp := rng_p (HC1.out.la.at HX.out).2
      have hyp := rng_p (HC1.out.lb.at HYy.out).2
      gi_wp2_with fail
      refine wpIn_wide.2 ?_
      go_quiet (fail)
      have hbq : Below w1.heap.size w1 (w1.drewN nq) := ⟨rfl, rfl, rfl, Nat.le_refl _, fun _ _ => rfl⟩
      have HT2 := zh (HT1.out.next hbq)
      clear hbq
      generalize World.drewN w1 nq = w2 at HT2 ⊢
      have HC2 := zh (HC.out.keep (Keep3.of_below HT2.out.b hB' hba' hbb'))
      have HT2d := zh (HT2.out.next ((Below.refl w2.heap.size w2).drew))
      have HC2d := zh (HC.out.keep (Keep3.of_below HT2d.out.b hB' hba' hbb'))
      have hz2 := HT2.out.size
      have hB2 : B ≤ w2.drew.heap.size := by show B ≤ w2.heap.size; omega
      have hba2 : ba < w2.drew.heap.size := by show ba < w2.heap.size; omega
      have hbb2 : bb < w2.drew.heap.size := by show bb < w2.heap.size; omega
      gi_wp2_with fail
      refine wpIn_wide.2 ?_
      refine wp_region_held_drew (S := fun w' => SbIn w' B ba bb (some ⟨g1, o1, none⟩) na ca a (some ⟨g2, o2, none⟩) nb cb b) (by kernel_rfl) HC2d.out (fun hHeld => ?_)
      refine zx 0 rfl (v := ?_) ?_ ?_; rotate_left
      ·intro w' hSw; have h1 := hSw.pa; go_simp; try with_reducible rfl
      refine zv 1 rfl ?_
      refine zv 2 rfl ?_
      refine' zk 3 rfl (v := _) (yieldsIf_load_mid (by rfl) _ _ rfl _ _ rfl _ _ ?hS3n32 Tryz.underlying86 rfl (info_c HOX.out)) ?rest3n32
      case hS3n32 =>
       intro w' hSw
       exact (hSw.la.at HX.out).2
      try simp only [Act.put, zuA, zuB, zuC, zuD, zuY, zuF]
      refine zx 4 rfl (v := ?_) ?_ ?_; rotate_left
      ·intro w' hSw; have h1 := hSw.pb; go_simp; try with_reducible rfl
      refine zv 5 rfl ?_
      refine zv 6 rfl ?_
      refine' zk 7 rfl (v := _) (yieldsIf_load_mid (by rfl) _ _ rfl _ _ rfl _ _ ?hS7n36 Tryz.underlying86 rfl (info_c HOY.out)) ?rest7n36
      case hS7n36 =>
       intro w' hSw
       exact (hSw.lb.at HYy.out).2
      try simp only [Act.put, zuA, zuB, zuC, zuD, zuY, zuF]
      have HT3 := HT2d
      refine zr 8 rfl (fun K hK => ?_)
      rw [if_pos (by rfl)]
      refine wp_store_row 86 _ _ rfl (wr.heap.size) _ rfl rfl 86 Tryz.zeroCells86 HT3.out.x HI1.out ((rfl : (Tryz.zeroCells86).size = 65).trans HI1s.out) (cgA_one x) ?_
      have HT4 := zh (HT3.out.setx (cgL x).toArray)
      generalize World.setRow _ _ _ = w4 at HT4 ⊢
      have HS4 := zh (HC.out.keep (Keep3.of_below HT4.out.b hB' hba' hbb'))
      refine hK.out _ _ HS4.out fun _ => ?_; clear hK K
      try simp only [Act.put, zuA, zuB, zuC, zuD, zuY, zuF]
      refine zr 9 rfl (fun K hK => ?_)
      rw [if_pos (by rfl)]
      refine wp_store_row 86 _ _ rfl (wr.heap.size + 1) _ rfl rfl 86 Tryz.zeroCells86 HT4.out.y HI2.out ((rfl : (Tryz.zeroCells86).size = 65).trans HI2s.out) (cgA_one y) ?_
      have HT5 := zh (HT4.out.sety (cgL y).toArray)
      generalize World.setRow _ _ _ = w5 at HT5 ⊢
      clear HS4
      have HS4 := zh (HC.out.keep (Keep3.of_below HT5.out.b hB' hba' hbb'))
      refine hK.out _ _ HS4.out fun _ => ?_; clear hK K
      try simp only [Act.put, zuA, zuB, zuC, zuD, zuY, zuF]
      refine zd ?_ _
      have HQ := zh (sbs_go HS.out (sbs_C HX.out HYy.out HXY.out HYX.out) HOK.out)
      obtain ⟨fn, tmps, assign, body, hy, hR⟩ := HY.out pre ⟨(x, y), HOK.out⟩ w5 (HJ.out pre wr w5 HJr.out HT5.out.b) (by rw [HQ.out, List.map_append, List.length_append, List.length_append]; simp; omega)
      simp only [encP] at hy
      gi_wp2_with (first
       | (refine wpListIn_load_rowS rfl 86 _ rfl (wr.heap.size + 1) rfl _ _ _ _ HT5.out.y Tryz.underlying86 rfl HI2.out ?_)
       | (refine wpListIn_load_rowS rfl 86 _ rfl wr.heap.size rfl _ _ _ _ HT5.out.x Tryz.underlying86 rfl HI1.out ?_))
      refine hR.mono ?_
      have hz5 := HT5.out.size
      clear hR hy
      rintro e W6 (⟨rfl, hJ6, hk6⟩ | ⟨rfl, hJx6⟩)
      ·have HJ6 := zh hJ6
       have HC6 := zh (HS4.out.keep hk6)
       have hz6 := hk6.1
       clear hJ6 hk6
       gi_wp2
       go_roundw
       case rel => exact ⟨i + 1, j + 1, pre ++ [⟨(x, y), HOK.out⟩], by omega, by omega, by first | rfl | go_num, by first | rfl | go_num, HQ, HJ6, HC6, by omega⟩
       case measure => simp [intOf]; omega
      ·have HJx6 := zh hJx6
       clear hJx6
       gi_wp2
       refine bodyPost_ret (results_none rfl _ _ _) rfl ?_
       exact ⟨⟨_, rfl⟩, .inr ⟨pre ++ [⟨(x, y), HOK.out⟩], ⟨_, HQ.out.symm⟩, HJx6.out⟩⟩
   ·obtain rfl : j = nb := by omega
    have HDR : Hid (b.drop j = []) := List.drop_eq_nil_of_le (by have := HC.out.lb.len; omega)
    have hd3 : ((j : Int) == (j : Int)) = true := by simp
    gi_wp2_with fail
    generalize hw1 : World.alloc (World.alloc wr _) _ = w1
    have HT1 : Hid (TwoB wr w1 Tryz.zeroCells86 Tryz.zeroCells86) := by show TwoB _ _ _ _; rw [← hw1]; exact TwoB.new _ _ _
    have HC1 := zh (HC.out.keep (Keep3.of_below HT1.out.b hB' hba' hbb'))
    clear hw1 hpa hpb
    have hpa := HC1.out.pa
    have hpb := HC1.out.pb
    have HOK : Hid (OkC x ∧ OkC (kp x.p x.n)) := ⟨HOX.out, HOX.out.2, HOX.out.2⟩
    have HI1 : Hid ((Tryz.prog.info? 86).map (·.size) = some (cgL x).toArray.size) := by show _ = _; rw [List.size_toArray]; exact info_c HOK.out.1
    have HI1s : Hid (65 = (cgL x).toArray.size) := by show _ = _; rw [List.size_toArray]; exact (cgL_length HOK.out.1).symm
    have HI2 : Hid ((Tryz.prog.info? 86).map (·.size) = some (cgL (kp x.p x.n)).toArray.size) := by show _ = _; rw [List.size_toArray]; exact info_c HOK.out.2
    have HI2s : Hid (65 = (cgL (kp x.p x.n)).toArray.size) := by show _ = _; rw [List.size_toArray]; exact (cgL_length HOK.out.2).symm
    refine wpIn_wide.2 ?_
    go_quiet (fail)
    have hbq : Below w1.heap.size w1 (w1.drewN nq) := ⟨rfl, rfl, rfl, Nat.le_refl _, fun _ _ => rfl⟩
    have HT2 := zh (HT1.out.next hbq)
    clear hbq
    generalize World.drewN w1 nq = w2 at HT2 ⊢
    have HC2 := zh (HC.out.keep (Keep3.of_below HT2.out.b hB' hba' hbb'))
    have HT2d := zh (HT2.out.next ((Below.refl w2.heap.size w2).drew))
    have HC2d := zh (HC.out.keep (Keep3.of_below HT2d.out.b hB' hba' hbb'))
    have hz2 := HT2.out.size
    have hB2 : B ≤ w2.drew.heap.size := by show B ≤ w2.heap.size; omega
    have hba2 : ba < w2.drew.heap.size := by show ba < w2.heap.size; omega
    have hbb2 : bb < w2.drew.heap.size := by show bb < w2.heap.size; omega
    gi_wp2_with fail
    refine wpIn_wide.2 ?_
    refine wp_region_held_drew (S := fun w' => SbIn w' B ba bb (some ⟨g1, o1, none⟩) na ca a spb j cb b) (by kernel_rfl) HC2d.out (fun hHeld => ?_)
    refine zx 0 rfl (v := ?_) ?_ ?_; rotate_left
    ·intro w' hSw; have h1 := hSw.pa; go_simp; try with_reducible rfl
    refine zv 1 rfl ?_
    refine zv 2 rfl ?_
    refine' zk 3 rfl (v := _) (yieldsIf_load_mid (by rfl) _ _ rfl _ _ rfl _ _ ?hS3n40 Tryz.underlying86 rfl (info_c HOX.out)) ?rest3n40
    case hS3n40 =>
     intro w' hSw
     exact (hSw.la.at HX.out).2
    try simp only [Act.put, zuA, zuB, zuC, zuD, zuY, zuF]
    refine zx 4 rfl (v := ?_) ?_ ?_; rotate_left
    ·intro w' hSw; have h1 := hSw.pa; go_simp; try with_reducible rfl
    refine zv 5 rfl ?_
    refine zv 6 rfl ?_
    refine zv 7 rfl ?_
    refine zx 8 rfl (v := ?_) ?_ ?_; rotate_left
    ·intro w' hSw; have h1 := rng_p (hSw.la.at HX.out).2; go_simp; try with_reducible rfl
    refine zx 9 rfl (v := ?_) ?_ ?_; rotate_left
    ·intro w' hSw; have h1 := hSw.pa; go_simp; try with_reducible rfl
    refine zv 10 rfl ?_
    refine zv 11 rfl ?_
    refine zv 12 rfl ?_
    refine' zk 13 rfl (v := _) (yieldsIf_load_mid (by rfl) _ _ rfl _ _ rfl _ _ ?hS13n50 Tryz.underlying80 rfl (info_d HOX.out.2)) ?rest13n50
    case hS13n50 =>
     intro w' hSw
     exact rng_n (hSw.la.at HX.out).2 HOX.out
    try simp only [Act.put, zuA, zuB, zuC, zuD, zuY, zuF]
    refine zr 14 rfl (fun K hK => ?_)
    go_simp
    with_reducible refine (kept_any x.p x.n _ HDN.out).mono ?_
    rintro e w3 ⟨rfl, hb3⟩
    go_wp2_with fail
    refine hK.out _ _ (HC2d.out.keep (Keep3.of_below hb3 hB2 hba2 hbb2)) fun _ => ?_; clear hK K
    try simp only [Act.put, zuA, zuB, zuC, zuD, zuY, zuF]
    have HT3 := zh (HT2d.out.next hb3)
    clear hb3
    refine zr 15 rfl (fun K hK => ?_)
    rw [if_pos (by rfl)]
    refine wp_store_row 86 _ _ rfl (wr.heap.size) _ rfl rfl 86 Tryz.zeroCells86 HT3.out.x HI1.out ((rfl : (Tryz.zeroCells86).size = 65).trans HI1s.out) (cgA_one x) ?_
    have HT4 := zh (HT3.out.setx (cgL x).toArray)
    generalize World.setRow _ _ _ = w4 at HT4 ⊢
    have HS4 := zh (HC.out.keep (Keep3.of_below HT4.out.b hB' hba' hbb'))
    refine hK.out _ _ HS4.out fun _ => ?_; clear hK K
    try simp only [Act.put, zuA, zuB, zuC, zuD, zuY, zuF]
    refine zr 16 rfl (fun K hK => ?_)
    rw [if_pos (by rfl)]
    refine wp_store_row 86 _ _ rfl (wr.heap.size + 1) _ rfl rfl 86 Tryz.zeroCells86 HT4.out.y HI2.out ((rfl : (Tryz.zeroCells86).size = 65).trans HI2s.out) (cgA_one (kp x.p x.n)) ?_
    have HT5 := zh (HT4.out.sety (cgL (kp x.p x.n)).toArray)
    generalize World.setRow _ _ _ = w5 at HT5 ⊢
    clear HS4
    have HS4 := zh (HC.out.keep (Keep3.of_below HT5.out.b hB' hba' hbb'))
    refine hK.out _ _ HS4.out fun _ => ?_; clear hK K
    try simp only [Act.put, zuA, zuB, zuC, zuD, zuY, zuF]
    refine zd ?_ _
    have HQ := zh (sbs_go HS.out (sbs_A HX.out (.inl HDR.out)) HOK.out)
    obtain ⟨fn, tmps, assign, body, hy, hR⟩ := HY.out pre ⟨(x, kp x.p x.n), HOK.out⟩ w5 (HJ.out pre wr w5 HJr.out HT5.out.b) (by rw [HQ.out, List.map_append, List.length_append, List.length_append]; simp; omega)
    simp only [encP] at hy
    gi_wp2_with (first
     | (refine wpListIn_load_rowS rfl 86 _ rfl (wr.heap.size + 1) rfl _ _ _ _ HT5.out.y Tryz.underlying86 rfl HI2.out ?_)
     | (refine wpListIn_load_rowS rfl 86 _ rfl wr.heap.size rfl _ _ _ _ HT5.out.x Tryz.underlying86 rfl HI1.out ?_))
    refine hR.mono ?_
    have hz5 := HT5.out.size
    clear hR hy
    rintro e W6 (⟨rfl, hJ6, hk6⟩ | ⟨rfl, hJx6⟩)
    ·have HJ6 := zh hJ6
     have HC6 := zh (HS4.out.keep hk6)
     have hz6 := hk6.1
     clear hJ6 hk6
     gi_wp2
     go_roundw
     case rel => exact ⟨i + 1, j, pre ++ [⟨(x, kp x.p x.n), HOK.out⟩], by omega, by omega, by first | rfl | go_num, by first | rfl | go_num, HQ, HJ6, HC6, by omega⟩
     case measure => simp [intOf]; omega
    ·have HJx6 := zh hJx6
     clear hJx6
     gi_wp2
     refine bodyPost_ret (results_none rfl _ _ _) rfl ?_
     exact ⟨⟨_, rfl⟩, .inr ⟨pre ++ [⟨(x, kp x.p x.n), HOK.out⟩], ⟨_, HQ.out.symm⟩, HJx6.out⟩⟩
  ·obtain rfl : i = na := by omega
   have HDR : Hid (a.drop i = []) := List.drop_eq_nil_of_le (by have := HC.out.la.len; omega)
   have hd1 : decide ((i : Int) < (i : Int)) = false := by simp
   by_cases hjb : j < nb
   ·have hd2 : decide ((j : Int) < (nb : Int)) = true := by simp; omega
    have hd3 : ((j : Int) == (nb : Int)) = false := by simp; omega
    have hd4 : ((i : Int) == (i : Int)) = true := by simp
    have p4 : (j : Int) < (nb : Int) := by omega
    obtain ⟨g2, o2, rfl, -, -, -⟩ := HC.out.lb.cells (by omega)
    obtain ⟨y, hy⟩ : ∃ y, b[j]? = some y := ⟨b[j]'(by have := HC.out.lb.len; omega), List.getElem?_eq_getElem _⟩
    have HOY := zh (HC.out.lb.ok y (List.mem_of_getElem? hy))
    have HYy := zh hy; clear hy
    have HDO := zh HOY.out.1
    gi_wp2_with fail
    generalize hw1 : World.alloc (World.alloc wr _) _ = w1
    have HT1 : Hid (TwoB wr w1 Tryz.zeroCells86 Tryz.zeroCells86) := by show TwoB _ _ _ _; rw [← hw1]; exact TwoB.new _ _ _
    have HC1 := zh (HC.out.keep (Keep3.of_below HT1.out.b hB' hba' hbb'))
    clear hw1 hpa hpb
    have hpa := HC1.out.pa
    have hpb := HC1.out.pb
    have HOK : Hid (OkC (kp y.p y.o) ∧ OkC y) := ⟨⟨HOY.out.1, HOY.out.1⟩, HOY.out⟩
    have HI1 : Hid ((Tryz.prog.info? 86).map (·.size) = some (cgL (kp y.p y.o)).toArray.size) := by show _ = _; rw [List.size_toArray]; exact info_c HOK.out.1
    have HI1s : Hid (65 = (cgL (kp y.p y.o)).toArray.size) := by show _ = _; rw [List.size_toArray]; exact (cgL_length HOK.out.1).symm
    have HI2 : Hid ((Tryz.prog.info? 86).map (·.size) = some (cgL y).toArray.size) := by show _ = _; rw [List.size_toArray]; exact info_c HOK.out.2
    have HI2s : Hid (65 = (cgL y).toArray.size) := by show _ = _; rw [List.size_toArray]; exact (cgL_length HOK.out.2).symm
    refine wpIn_wide.2 ?_
    go_quiet (fail)
    have hbq : Below w1.heap.size w1 (w1.drewN nq) := ⟨rfl, rfl, rfl, Nat.le_refl _, fun _ _ => rfl⟩
    have HT2 := zh (HT1.out.next hbq)
    clear hbq
    generalize World.drewN w1 nq = w2 at HT2 ⊢
    clear HT1 HC1 hpa hpb
    clear w1
    rename World => w1
    have HT1 := HT2
    clear HT2
    have HC1 := zh (HC.out.keep (Keep3.of_below HT1.out.b hB' hba' hbb'))
    have hpa := HC1.out.pa
    have hpb := HC1.out.pb
    gi_wp2_with fail
    refine wpIn_wide.2 ?_
    go_quiet (fail)
    have hbq : Below w1.heap.size w1 (w1.drewN nq) := ⟨rfl, rfl, rfl, Nat.le_refl _, fun _ _ => rfl⟩
    have HT2 := zh (HT1.out.next hbq)
    clear hbq
    generalize World.drewN w1 nq = w2 at HT2 ⊢
    have HC2 := zh (HC.out.keep (Keep3.of_below HT2.out.b hB' hba' hbb'))
    have HT2d := zh (HT2.out.next ((Below.refl w2.heap.size w2).drew))
    have HC2d := zh (HC.out.keep (Keep3.of_below HT2d.out.b hB' hba' hbb'))
    have hz2 := HT2.out.size
    have hB2 : B ≤ w2.drew.heap.size := by show B ≤ w2.heap.size; omega
    have hba2 : ba < w2.drew.heap.size := by show ba < w2.heap.size; omega
    have hbb2 : bb < w2.drew.heap.size := by show bb < w2.heap.size; omega
    gi_wp2_with fail
    refine wpIn_wide.2 ?_
    refine wp_region_held_drew (S := fun w' => SbIn w' B ba bb spa i ca a (some ⟨g2, o2, none⟩) nb cb b) (by kernel_rfl) HC2d.out (fun hHeld => ?_)
    refine zx 0 rfl (v := ?_) ?_ ?_; rotate_left
    ·intro w' hSw; have h1 := hSw.pb; go_simp; try with_reducible rfl
    refine zv 1 rfl ?_
    refine zv 2 rfl ?_
    refine zv 3 rfl ?_
    refine zx 4 rfl (v := ?_) ?_ ?_; rotate_left
    ·intro w' hSw; have h1 := rng_p (hSw.lb.at HYy.out).2; go_simp; try with_reducible rfl
    refine zx 5 rfl (v := ?_) ?_ ?_; rotate_left
    ·intro w' hSw; have h1 := hSw.pb; go_simp; try with_reducible rfl
    refine zv 6 rfl ?_
    refine zv 7 rfl ?_
    refine zv 8 rfl ?_
    refine' zk 9 rfl (v := _) (yieldsIf_load_mid (by rfl) _ _ rfl _ _ rfl _ _ ?hS9n60 Tryz.underlying80 rfl (info_d HOY.out.1)) ?rest9n60
    case hS9n60 =>
     intro w' hSw
     exact rng_o (hSw.lb.at HYy.out).2
    try simp only [Act.put, zuA, zuB, zuC, zuD, zuY, zuF]
    refine zx 11 rfl (v := ?_) ?_ ?_; rotate_left
    ·intro w' hSw; have h1 := hSw.pb; go_simp; try with_reducible rfl
    refine zv 12 rfl ?_
    refine zv 13 rfl ?_
    refine' zk 14 rfl (v := _) (yieldsIf_load_mid (by rfl) _ _ rfl _ _ rfl _ _ ?hS14n64 Tryz.underlying86 rfl (info_c HOY.out)) ?rest14n64
    case hS14n64 =>
     intro w' hSw
     exact (hSw.lb.at HYy.out).2
    try simp only [Act.put, zuA, zuB, zuC, zuD, zuY, zuF]
    refine zr 10 rfl (fun K hK => ?_)
    go_simp
    with_reducible refine (kept_any y.p y.o _ HDO.out).mono ?_
    rintro e w3 ⟨rfl, hb3⟩
    go_wp2_with fail
    refine hK.out _ _ (HC2d.out.keep (Keep3.of_below hb3 hB2 hba2 hbb2)) fun _ => ?_; clear hK K
    try simp only [Act.put, zuA, zuB, zuC, zuD, zuY, zuF]
    have HT3 := zh (HT2d.out.next hb3)
    clear hb3
    refine zr 15 rfl (fun K hK => ?_)
    rw [if_pos (by rfl)]
    refine wp_store_row 86 _ _ rfl (wr.heap.size) _ rfl rfl 86 Tryz.zeroCells86 HT3.out.x HI1.out ((rfl : (Tryz.zeroCells86).size = 65).trans HI1s.out) (cgA_one (kp y.p y.o)) ?_
    have HT4 := zh (HT3.out.setx (cgL (kp y.p y.o)).toArray)
    generalize World.setRow _ _ _ = w4 at HT4 ⊢
    have HS4 := zh (HC.out.keep (Keep3.of_below HT4.out.b hB' hba' hbb'))
    refine hK.out _ _ HS4.out fun _ => ?_; clear hK K
    try simp only [Act.put, zuA, zuB, zuC, zuD, zuY, zuF]
    refine zr 16 rfl (fun K hK => ?_)
    rw [if_pos (by rfl)]
    refine wp_store_row 86 _ _ rfl (wr.heap.size + 1) _ rfl rfl 86 Tryz.zeroCells86 HT4.out.y HI2.out ((rfl : (Tryz.zeroCells86).size = 65).trans HI2s.out) (cgA_one y) ?_
    have HT5 := zh (HT4.out.sety (cgL y).toArray)
    generalize World.setRow _ _ _ = w5 at HT5 ⊢
    clear HS4
    have HS4 := zh (HC.out.keep (Keep3.of_below HT5.out.b hB' hba' hbb'))
    refine hK.out _ _ HS4.out fun _ => ?_; clear hK K
    try simp only [Act.put, zuA, zuB, zuC, zuD, zuY, zuF]
    refine zd ?_ _
    have HQ := zh (sbs_go HS.out (sbs_B HYy.out (.inl HDR.out)) HOK.out)
    obtain ⟨fn, tmps, assign, body, hy, hR⟩ := HY.out pre ⟨(kp y.p y.o, y), HOK.out⟩ w5 (HJ.out pre wr w5 HJr.out HT5.out.b) (by rw [HQ.out, List.map_append, List.length_append, List.length_append]; simp; omega)
    simp only [encP] at hy
    gi_wp2_with (first
     | (refine wpListIn_load_rowS rfl 86 _ rfl (wr.heap.size + 1) rfl _ _ _ _ HT5.out.y Tryz.underlying86 rfl HI2.out ?_)
     | (refine wpListIn_load_rowS rfl 86 _ rfl wr.heap.size rfl _ _ _ _ HT5.out.x Tryz.underlying86 rfl HI1.out ?_))
    refine hR.mono ?_
    have hz5 := HT5.out.size
    clear hR hy
    rintro e W6 (⟨rfl, hJ6, hk6⟩ | ⟨rfl, hJx6⟩)
    ·have HJ6 := zh hJ6
     have HC6 := zh (HS4.out.keep hk6)
     have hz6 := hk6.1
     clear hJ6 hk6
     gi_wp2
     go_roundw
     case rel => exact ⟨i, j + 1, pre ++ [⟨(kp y.p y.o, y), HOK.out⟩], by omega, by omega, by first | rfl | go_num, by first | rfl | go_num, HQ, HJ6, HC6, by omega⟩
     case measure => simp [intOf]; omega
    ·have HJx6 := zh hJx6
     clear hJx6
     gi_wp2
     refine bodyPost_ret (results_none rfl _ _ _) rfl ?_
     exact ⟨⟨_, rfl⟩, .inr ⟨pre ++ [⟨(kp y.p y.o, y), HOK.out⟩], ⟨_, HQ.out.symm⟩, HJx6.out⟩⟩
   ·obtain rfl : j = nb := by omega
    have hd2 : decide ((j : Int) < (j : Int)) = false := by simp
    have HE : Hid (pre.map (·.1) = sbs a b) := by
     show _ = _
     have hdb : b.drop j = [] := List.drop_eq_nil_of_le (by have := HC.out.lb.len; omega)
     rw [HS.out, HDR.out, hdb, sbs_nil]; simp
    gi_wp2_with fail
    go_end0
    exact ⟨⟨_, rfl⟩, .inl ⟨pre, HE.out, HJr.out⟩⟩
end Go.Proofs.YtecllfbadciaoaaGreatDoor
