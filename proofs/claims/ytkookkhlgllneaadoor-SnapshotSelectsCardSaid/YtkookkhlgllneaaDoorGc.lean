/-
  The walk of the iterator that sideBySide makes: it calls yield with the pairs that two lists have side by side, in their order (conditions: digests of 32 bytes, at most 1000000 elements each; a round that goes on leaves the two lists as they were).
-/
import Derived.Test.YtkookkhlgllneaaDoorGb
import Derived.RangeFuncNested
import Derived.RangeFuncBound
import Derived.RangeFuncCalls
import Derived.RangeFuncLeaves
import Derived.RangeFuncKeeps
import Derived.OwnWalkIn
import Derived.TacticsInMore
import Derived.LoopNIn
import Derived.LoopIn
import Derived.BigQuiet
import Derived.Deep.QuietTactic
import Derived.RangeFuncBox
import Derived.RangeFuncFrom
import Derived.Shelf.Abstract
namespace Go.Proofs.YtkookkhlgllneaaDoor
open Go.RowKit

theorem CgsIn.at {w : World} {B g off n cap : Nat} {l : List Cg} (h : CgsIn w B (some ⟨g, off, none⟩) n cap l) {i : Nat} {x : Cg} (hi : l[i]? = some x) : g < B ∧ w.rangeAt g (off + i * 65) (cgL x) := by
  have hl := (List.getElem?_eq_some_iff.1 hi).1
  obtain ⟨b, o, e, hb, _, hr⟩ := h.cells (by have := h.len; omega)
  injection e with e; injection e with e1 e2; subst e1 e2
  exact ⟨hb, hr i x hi⟩
theorem rng_p {w : World} {g o : Nat} {x : Cg} (h : w.rangeAt g o (cgL x)) : w.cell? ⟨g, o, none⟩ = some (.string x.p) := h 0 _ rfl
theorem rng_sub {w : World} {g o : Nat} {cs : List Value} (h : w.rangeAt g o cs) (k : Nat) (sub : List Value) (hs : ∀ j v, sub[j]? = some v → cs[k + j]? = some v) : w.rangeAt g (o + k) sub := by
  intro j v hv
  have := h (k + j) v (hs j v hv)
  show w.cell? ⟨g, o + k + j, none⟩ = some v
  rw [Nat.add_assoc]; exact this
theorem rng_o {w : World} {g o : Nat} {x : Cg} (h : w.rangeAt g o (cgL x)) : w.rangeAt g (o + 1) (x.o.map (Value.int .u8)) := rng_sub h 1 _ (fun j v hv => by
  have hj := (List.getElem?_eq_some_iff.1 hv).1
  unfold cgL; rw [Nat.add_comm, List.getElem?_cons_succ, List.getElem?_append_left hj]; exact hv)
theorem rng_n {w : World} {g o : Nat} {x : Cg} (h : w.rangeAt g o (cgL x)) (hx : OkC x) : w.rangeAt g (o + 33) (x.n.map (Value.int .u8)) := rng_sub h 33 _ (fun j v hv => by
  unfold cgL; rw [show 33 + j = (32 + j) + 1 by omega, List.getElem?_cons_succ, List.getElem?_append_right (by rw [List.length_map, hx.1.1]; omega), List.length_map, hx.1.1, Nat.add_sub_cancel_left]; exact hv)
/-- what the iterator reads -/
structure SbIn (w : World) (B ba bb : Nat) (spa : Option Addr) (na ca : Nat) (a : List Cg) (spb : Option Addr) (nb cb : Nat) (b : List Cg) : Prop where
  pa : w.cell? ⟨ba, 0, none⟩ = some (.slice spa na ca)
  pb : w.cell? ⟨bb, 0, none⟩ = some (.slice spb nb cb)
  la : CgsIn w B spa na ca a
  lb : CgsIn w B spb nb cb b
/-- the blocks that it reads lie as they lay -/
def Keep3 (B ba bb : Nat) (W W' : World) : Prop := W.heap.size ≤ W'.heap.size ∧ (∀ k, k < B → W'.heap[k]? = W.heap[k]?) ∧ W'.heap[ba]? = W.heap[ba]? ∧ W'.heap[bb]? = W.heap[bb]?
theorem Keep3.trans {B ba bb : Nat} {X Y Z : World} (h : Keep3 B ba bb X Y) (k : Keep3 B ba bb Y Z) : Keep3 B ba bb X Z := ⟨Nat.le_trans h.1 k.1, fun i hi => (k.2.1 i hi).trans (h.2.1 i hi), k.2.2.1.trans h.2.2.1, k.2.2.2.trans h.2.2.2⟩
theorem Keep3.of_below {B ba bb M : Nat} {X Y : World} (h : Below M X Y) (h1 : B ≤ M) (h2 : ba < M) (h3 : bb < M) : Keep3 B ba bb X Y := ⟨h.size, fun k hk => h.block k (by omega), h.block _ h2, h.block _ h3⟩
theorem CgsIn.keep {w w' : World} {B : Nat} {sp : Option Addr} {n cap : Nat} {l : List Cg} (h : CgsIn w B sp n cap l) (hk : ∀ k, k < B → w'.heap[k]? = w.heap[k]?) : CgsIn w' B sp n cap l :=
  ⟨h.len, h.ok, fun hn => by
    obtain ⟨b, off, e, hlt, hc, hr⟩ := h.cells hn
    exact ⟨b, off, e, hlt, hc, fun i x hi j v hv => (World.cell?_of_block (a := ⟨b, off + i * 65 + j, none⟩) (hk b hlt)).trans (hr i x hi j v hv)⟩⟩
theorem SbIn.keep {w w' : World} {B ba bb : Nat} {spa : Option Addr} {na ca : Nat} {a : List Cg} {spb : Option Addr} {nb cb : Nat} {b : List Cg} (h : SbIn w B ba bb spa na ca a spb nb cb b) (hk : Keep3 B ba bb w w') : SbIn w' B ba bb spa na ca a spb nb cb b :=
  ⟨(World.cell?_of_block (a := ⟨ba, 0, none⟩) hk.2.2.1).trans h.pa, (World.cell?_of_block (a := ⟨bb, 0, none⟩) hk.2.2.2).trans h.pb, h.la.keep hk.2.1, h.lb.keep hk.2.1⟩
/-- a pair of changes whose digests are digests -/
abbrev CP := { q : Cg × Cg // OkC q.1 ∧ OkC q.2 }
def encP (q : CP) : Array Value := #[.agg (cgL q.1.1).toArray, .agg (cgL q.1.2).toArray]

/-- two fresh blocks for two changes, and nothing else is turned -/
structure TwoB (wr w : World) (cx cy : Array Value) : Prop where
  b : Below wr.heap.size wr w
  x : w.heap[wr.heap.size]? = some (.cells cx 81 (0, 0))
  y : w.heap[wr.heap.size + 1]? = some (.cells cy 81 (0, 0))
theorem TwoB.new (wr : World) (cx cy : Array Value) : TwoB wr ((wr.alloc (.cells cx 81)).alloc (.cells cy 81)) cx cy :=
  ⟨((Below.refl _ wr).alloc (Nat.le_refl _) _).alloc (by simp) _, (Below.heap_alloc _ _ _ (by simp)).trans (heap_alloc_new wr _), by
    have := heap_alloc_new (wr.alloc (.cells cx 81)) (.cells cy 81); rwa [World.size_alloc] at this⟩
theorem TwoB.size {wr w : World} {cx cy : Array Value} (h : TwoB wr w cx cy) : wr.heap.size + 1 < w.heap.size := (Array.getElem?_eq_some_iff.1 h.y).1
theorem TwoB.next {wr w w' : World} {cx cy : Array Value} (h : TwoB wr w cx cy) (hb : Below w.heap.size w w') : TwoB wr w' cx cy :=
  ⟨h.b.trans (hb.mono h.b.size), (hb.block _ (by have := h.size; omega)).trans h.x, (hb.block _ h.size).trans h.y⟩
theorem TwoB.setx {wr w : World} {cx cy : Array Value} (h : TwoB wr w cx cy) (c : Array Value) : TwoB wr (w.setRow wr.heap.size c) c cy :=
  ⟨below_setRow h.b (Nat.le_refl _) c, setRow_heap _ _ _ _ _ _ h.x, (setRow_other _ _ _ _ (by omega)).trans h.y⟩
theorem TwoB.sety {wr w : World} {cx cy : Array Value} (h : TwoB wr w cx cy) (c : Array Value) : TwoB wr (w.setRow (wr.heap.size + 1) c) cx c :=
  ⟨below_setRow h.b (by omega) c, (setRow_other _ _ _ _ (by omega)).trans h.x, setRow_heap _ _ _ _ _ _ h.y⟩
/-- a row's load, inside a fence -/
theorem wpListIn_load_rowS {F : Fence} {n : Nat} {P : Program} {ops : Array Oper} {rest : List Oper} {o : Oper} {a : Act} {w : World} {Q : Exit → Act → World → Prop} (hgd : o.guard = none) (ty : TypeId) (x : Operand) (ho : o.op = .load ty x)
    (g : Nat) (hx : a.eval x = .pointer (some ⟨g, 0, none⟩)) (t : TypeId) (cs : Array Value) (fr : Nat × Nat) (d : TypeDesc) (hg : w.heap[g]? = some (.cells cs t fr))
    (hu : P.underlying ty = some d) (hd : (match d with | .struct _ | .array _ _ => true | _ => false) = true) (hi : (P.info? ty).map (·.size) = some cs.size)
    (h : wpListIn F n P ops Q rest (a.put o.dst (.agg cs)) w) : wpListIn F n P ops Q (o :: rest) a w := by
  refine wpListIn_plain hgd fun K hK => ?_
  unfold Oper.wpIn
  refine ⟨?_, ?_⟩
  · simp [Oper.about, ho]
  · rw [Oper.semAt_plain F _ _ (by rw [ho]; intro c hc'; cases hc')]
    unfold execOp
    simp only [ho, hx, Instr.loadAt, Instr.sureAddr, Sem.run_bind, Sem.run_pure, Result.andThen_ok, run_loadVar_row w g t ty cs fr d hg hu hd hi]
    exact hK _ _ h
theorem drop_atS {l : List Cg} {i : Nat} {x : Cg} (h : l[i]? = some x) : l.drop i = x :: l.drop (i + 1) := by
  have hl := (List.getElem?_eq_some_iff.1 h).1
  rw [List.drop_eq_getElem_cons hl]; congr 1; exact (List.getElem?_eq_some_iff.1 h).2
theorem sbs_A {a b : List Cg} {i j : Nat} {x : Cg} (hx : a[i]? = some x) (h : b.drop j = [] ∨ ∃ y, b[j]? = some y ∧ pls x.p y.p = true) : sbs (a.drop i) (b.drop j) = (x, kp x.p x.n) :: sbs (a.drop (i + 1)) (b.drop j) := by
  rw [drop_atS hx]
  rcases h with h | ⟨y, hy, h⟩
  · rw [h, sbs_nil_right, sbs_nil_right]; rfl
  · rw [drop_atS hy, sbs_lt h]
theorem sbs_B {a b : List Cg} {i j : Nat} {y : Cg} (hy : b[j]? = some y) (h : a.drop i = [] ∨ ∃ x, a[i]? = some x ∧ pls x.p y.p = false ∧ pls y.p x.p = true) : sbs (a.drop i) (b.drop j) = (kp y.p y.o, y) :: sbs (a.drop i) (b.drop (j + 1)) := by
  rw [drop_atS hy]
  rcases h with h | ⟨x, hx, h1, h2⟩
  · rw [h, sbs_nil, sbs_nil]; rfl
  · rw [drop_atS hx, sbs_gt h1 h2]
theorem sbs_C {a b : List Cg} {i j : Nat} {x y : Cg} (hx : a[i]? = some x) (hy : b[j]? = some y) (h1 : pls x.p y.p = false) (h2 : pls y.p x.p = false) : sbs (a.drop i) (b.drop j) = (x, y) :: sbs (a.drop (i + 1)) (b.drop (j + 1)) := by
  rw [drop_atS hx, drop_atS hy, sbs_eq h1 h2]
/-- one pair more -/
theorem sbs_go {a b : List Cg} {pre : List CP} {i j i' j' : Nat} {q : Cg × Cg} (h : sbs a b = pre.map (·.1) ++ sbs (a.drop i) (b.drop j)) (hq : sbs (a.drop i) (b.drop j) = q :: sbs (a.drop i') (b.drop j')) (ok : OkC q.1 ∧ OkC q.2) :
    sbs a b = (pre ++ [(⟨q, ok⟩ : CP)]).map (·.1) ++ sbs (a.drop i') (b.drop j') := by rw [h, hq, List.map_append, List.append_assoc]; rfl
set_option maxRecDepth 100000 in
set_option maxHeartbeats 4000000 in
theorem sbs_in (n l B ba bb : Nat) (spa : Option Addr) (na ca : Nat) (a : List Cg) (spb : Option Addr) (nb cb : Nat) (b : List Cg) (hn : 1 ≤ n) (hna : na ≤ 1000000) (hnb : nb ≤ 1000000) (J Jx : List CP → World → Prop) (W0 : World)
    (hB : B ≤ W0.heap.size) (hba : ba < W0.heap.size) (hbb : bb < W0.heap.size)
    (hJ : ∀ pre W W', J pre W → Below W.heap.size W W' → J pre W')
    (hY : ∀ pre x W, J pre W → pre.length < (sbs a b).length → YieldAt Fence.wide (n - 1) Tryd.prog l (encP x) W fun e W' => (e = .returned (.bool true) ∧ J (pre ++ [x]) W' ∧ Keep3 B ba bb W W') ∨ (e = .returned (.bool false) ∧ Jx (pre ++ [x]) W'))
    (hc : SbIn W0 B ba bb spa na ca a spb nb cb b) (h0 : J [] W0) :
    CallsIn Fence.wide n Tryd.prog 139 #[.func (.yield l) #[] #[], .pointer (some ⟨ba, 0, none⟩), .pointer (some ⟨bb, 0, none⟩)] W0 fun e W' =>
      (∃ v, e = .returned v) ∧ ((∃ xs, xs.map (·.1) = sbs a b ∧ J xs W') ∨ (∃ pre, pre.map (·.1) <+: sbs a b ∧ Jx pre W')) := by
  have HJ := Lib.hid hJ; have HY := Lib.hid hY
  clear hJ hY
  refine callsIn_of_wp Tryd.func139 rfl trivial ?_ rfl
  simp only [Tryd.ntmps139, List.size_toArray, List.length_cons, List.length_nil, Nat.reduceAdd, Nat.reduceSub, Array.replicate_succ, Array.replicate_zero, List.push_toArray, List.append_toArray, List.nil_append, List.cons_append]
  gi_wp2
  gi_loopw [4, 5] (fun u v wr => ∃ (i j : Nat) (pre : List CP), i ≤ na ∧ j ≤ nb ∧ u = .int .i64 i ∧ v = .int .i64 j ∧ Hid (sbs a b = pre.map (·.1) ++ sbs (a.drop i) (b.drop j)) ∧ Hid (J pre wr) ∧ Hid (SbIn wr B ba bb spa na ca a spb nb cb b) ∧ W0.heap.size ≤ wr.heap.size) (fun u v _ => na + nb - (intOf u).toNat - (intOf v).toNat)
  case atStart => exact ⟨0, 0, [], Nat.zero_le _, Nat.zero_le _, rfl, rfl, rfl, h0, hc, Nat.le_refl _⟩
  case round =>
    clear hc h0
    obtain ⟨i, j, pre, hi, hj, rfl, rfl, HS, HJr, HC, hsz⟩ := hrel
    have hpa := HC.out.pa
    have hpb := HC.out.pb
    have hB' : B ≤ wr.heap.size := by omega
    have hba' : ba < wr.heap.size := by omega
    have hbb' : bb < wr.heap.size := by omega
    have p1 : (0 : Int) ≤ (i : Int) := by omega
    have p3 : (0 : Int) ≤ (j : Int) := by omega
    have s1 : IntKind.i64.wrap (i : Int) = (i : Int) := IntWalk.i64_in _ (by omega)
    have s2 : IntKind.i64.wrap (j : Int) = (j : Int) := IntWalk.i64_in _ (by omega)
    by_cases hia : i < na
    · have hd1 : decide ((i : Int) < (na : Int)) = true := by simp; omega
      have p2 : (i : Int) < (na : Int) := by omega
      obtain ⟨g1, o1, rfl, -, -, -⟩ := HC.out.la.cells (by omega)
      obtain ⟨x, hx⟩ : ∃ x, a[i]? = some x := ⟨a[i]'(by have := HC.out.la.len; omega), List.getElem?_eq_getElem _⟩
      have HOX := Lib.hid (HC.out.la.ok x (List.mem_of_getElem? hx))
      have HX := Lib.hid hx; clear hx
      have HDN := Lib.hid HOX.out.2
      by_cases hjb : j < nb
      · have hd2 : decide ((j : Int) < (nb : Int)) = true := by simp; omega
        have hd3 : ((j : Int) == (nb : Int)) = false := by simp; omega
        have hd4 : ((i : Int) == (na : Int)) = false := by simp; omega
        have p4 : (j : Int) < (nb : Int) := by omega
        obtain ⟨g2, o2, rfl, -, -, -⟩ := HC.out.lb.cells (by omega)
        obtain ⟨y, hy⟩ : ∃ y, b[j]? = some y := ⟨b[j]'(by have := HC.out.lb.len; omega), List.getElem?_eq_getElem _⟩
        have HOY := Lib.hid (HC.out.lb.ok y (List.mem_of_getElem? hy))
        have HYy := Lib.hid hy; clear hy
        have HDO := Lib.hid HOY.out.1
        by_cases hxy : pls x.p y.p = true
        · have hd5 : Op.bytesLess x.p.toList y.p.toList = true := hxy
          have HXY := Lib.hid hxy; clear hxy
          gi_wp2_with fail
          generalize hw1 : World.alloc (World.alloc wr _) _ = w1
          have HT1 : Hid (TwoB wr w1 Tryd.zeroCells81 Tryd.zeroCells81) := by show TwoB _ _ _ _; rw [← hw1]; exact TwoB.new _ _ _
          have HC1 := Lib.hid (HC.out.keep (Keep3.of_below HT1.out.b hB' hba' hbb'))
          clear hw1 hpa hpb
          have hpa := HC1.out.pa
          have hpb := HC1.out.pb
          have HOK : Hid (OkC x ∧ OkC (kp x.p x.n)) := ⟨HOX.out, HOX.out.2, HOX.out.2⟩
          have HI1 : Hid ((Tryd.prog.info? 81).map (·.size) = some (cgL x).toArray.size) := by show _ = _; rw [List.size_toArray]; exact info_c HOK.out.1
          have HI1s : Hid (65 = (cgL x).toArray.size) := by show _ = _; rw [List.size_toArray]; exact (cgL_length HOK.out.1).symm
          have HI2 : Hid ((Tryd.prog.info? 81).map (·.size) = some (cgL (kp x.p x.n)).toArray.size) := by show _ = _; rw [List.size_toArray]; exact info_c HOK.out.2
          have HI2s : Hid (65 = (cgL (kp x.p x.n)).toArray.size) := by show _ = _; rw [List.size_toArray]; exact (cgL_length HOK.out.2).symm
          have hxp := rng_p (HC1.out.la.at HX.out).2
          have hyp := rng_p (HC1.out.lb.at HYy.out).2
          refine wpIn_wide.2 ?_
          go_quiet (fail)
          have hbq : Below w1.heap.size w1 (w1.drewN nq) := ⟨rfl, rfl, rfl, Nat.le_refl _, fun _ _ => rfl⟩
          have HT2 := Lib.hid (HT1.out.next hbq)
          clear hbq
          generalize World.drewN w1 nq = w2 at HT2 ⊢
          have HC2 := Lib.hid (HC.out.keep (Keep3.of_below HT2.out.b hB' hba' hbb'))
          have HT2d := Lib.hid (HT2.out.next ((Below.refl w2.heap.size w2).drew))
          have HC2d := Lib.hid (HC.out.keep (Keep3.of_below HT2d.out.b hB' hba' hbb'))
          have hz2 := HT2.out.size
          have hB2 : B ≤ w2.drew.heap.size := by show B ≤ w2.heap.size; omega
          have hba2 : ba < w2.drew.heap.size := by show ba < w2.heap.size; omega
          have hbb2 : bb < w2.drew.heap.size := by show bb < w2.heap.size; omega
          gi_wp2_with fail
          refine wpIn_wide.2 ?_
          refine wp_region_held_drew (S := fun w' => SbIn w' B ba bb (some ⟨g1, o1, none⟩) na ca a (some ⟨g2, o2, none⟩) nb cb b) (by kernel_rfl) HC2d.out (fun hHeld => ?_)
          refine wpAnyH_take (i := 0) (oi := _) (v := ?v0n1) rfl (by kernel_rfl) (by kernel_rfl) (by kernel_rfl) (fun _ _ _ h => h) (Or.inl ⟨by rfl, ?hy0n1⟩) (by assumption) ?rest0n1
          case hy0n1 =>
            intro w' hSw
            have h1 := hSw.pa
            go_simp
            try with_reducible rfl
          try simp only [Act.put, List.getElem_toArray, List.getElem_cons_succ, List.getElem_cons_zero, List.setIfInBounds_toArray, List.set_cons_zero, List.set_cons_succ]
          refine wpAnyH_take (i := 1) (oi := _) (v := ?v1n2) rfl (by kernel_rfl) (by kernel_rfl) (by kernel_rfl) (fun _ _ _ h => h) (Or.inl ⟨by rfl, ?hy1n2⟩) (by assumption) ?rest1n2
          case hy1n2 =>
            intro w' hSw
            go_simp
            try with_reducible rfl
          try simp only [Act.put, List.getElem_toArray, List.getElem_cons_succ, List.getElem_cons_zero, List.setIfInBounds_toArray, List.set_cons_zero, List.set_cons_succ]
          refine wpAnyH_take (i := 2) (oi := _) (v := ?v2n3) rfl (by kernel_rfl) (by kernel_rfl) (by kernel_rfl) (fun _ _ _ h => h) (Or.inl ⟨by rfl, ?hy2n3⟩) (by assumption) ?rest2n3
          case hy2n3 =>
            intro w' hSw
            go_simp
            try with_reducible rfl
          try simp only [Act.put, List.getElem_toArray, List.getElem_cons_succ, List.getElem_cons_zero, List.setIfInBounds_toArray, List.set_cons_zero, List.set_cons_succ]
          refine' wpAnyH_take (i := 3) (oi := _) (v := _) rfl (by kernel_rfl) (by kernel_rfl) (by kernel_rfl) (fun _ _ _ h => h) (yieldsIf_load_mid (by rfl) _ _ rfl _ _ rfl _ _ ?hS3n4 Tryd.underlying81 rfl (info_c HOX.out)) (by assumption) ?rest3n4
          case hS3n4 =>
            intro w' hSw
            exact (hSw.la.at HX.out).2
          try simp only [Act.put, List.getElem_toArray, List.getElem_cons_succ, List.getElem_cons_zero, List.setIfInBounds_toArray, List.set_cons_zero, List.set_cons_succ]
          refine wpAnyH_take (i := 4) (oi := _) (v := ?v4n5) rfl (by kernel_rfl) (by kernel_rfl) (by kernel_rfl) (fun _ _ _ h => h) (Or.inl ⟨by rfl, ?hy4n5⟩) (by assumption) ?rest4n5
          case hy4n5 =>
            intro w' hSw
            have h1 := hSw.pa
            go_simp
            try with_reducible rfl
          try simp only [Act.put, List.getElem_toArray, List.getElem_cons_succ, List.getElem_cons_zero, List.setIfInBounds_toArray, List.set_cons_zero, List.set_cons_succ]
          refine wpAnyH_take (i := 5) (oi := _) (v := ?v5n6) rfl (by kernel_rfl) (by kernel_rfl) (by kernel_rfl) (fun _ _ _ h => h) (Or.inl ⟨by rfl, ?hy5n6⟩) (by assumption) ?rest5n6
          case hy5n6 =>
            intro w' hSw
            go_simp
            try with_reducible rfl
          try simp only [Act.put, List.getElem_toArray, List.getElem_cons_succ, List.getElem_cons_zero, List.setIfInBounds_toArray, List.set_cons_zero, List.set_cons_succ]
          refine wpAnyH_take (i := 6) (oi := _) (v := ?v6n7) rfl (by kernel_rfl) (by kernel_rfl) (by kernel_rfl) (fun _ _ _ h => h) (Or.inl ⟨by rfl, ?hy6n7⟩) (by assumption) ?rest6n7
          case hy6n7 =>
            intro w' hSw
            go_simp
            try with_reducible rfl
          try simp only [Act.put, List.getElem_toArray, List.getElem_cons_succ, List.getElem_cons_zero, List.setIfInBounds_toArray, List.set_cons_zero, List.set_cons_succ]
          refine wpAnyH_take (i := 7) (oi := _) (v := ?v7n8) rfl (by kernel_rfl) (by kernel_rfl) (by kernel_rfl) (fun _ _ _ h => h) (Or.inl ⟨by rfl, ?hy7n8⟩) (by assumption) ?rest7n8
          case hy7n8 =>
            intro w' hSw
            go_simp
            try with_reducible rfl
          try simp only [Act.put, List.getElem_toArray, List.getElem_cons_succ, List.getElem_cons_zero, List.setIfInBounds_toArray, List.set_cons_zero, List.set_cons_succ]
          refine wpAnyH_take (i := 8) (oi := _) (v := ?v8n9) rfl (by kernel_rfl) (by kernel_rfl) (by kernel_rfl) (fun _ _ _ h => h) (Or.inl ⟨by rfl, ?hy8n9⟩) (by assumption) ?rest8n9
          case hy8n9 =>
            intro w' hSw
            have h1 := rng_p (hSw.la.at HX.out).2
            go_simp
            try with_reducible rfl
          try simp only [Act.put, List.getElem_toArray, List.getElem_cons_succ, List.getElem_cons_zero, List.setIfInBounds_toArray, List.set_cons_zero, List.set_cons_succ]
          refine wpAnyH_take (i := 9) (oi := _) (v := ?v9n10) rfl (by kernel_rfl) (by kernel_rfl) (by kernel_rfl) (fun _ _ _ h => h) (Or.inl ⟨by rfl, ?hy9n10⟩) (by assumption) ?rest9n10
          case hy9n10 =>
            intro w' hSw
            have h1 := hSw.pa
            go_simp
            try with_reducible rfl
          try simp only [Act.put, List.getElem_toArray, List.getElem_cons_succ, List.getElem_cons_zero, List.setIfInBounds_toArray, List.set_cons_zero, List.set_cons_succ]
          refine wpAnyH_take (i := 10) (oi := _) (v := ?v10n11) rfl (by kernel_rfl) (by kernel_rfl) (by kernel_rfl) (fun _ _ _ h => h) (Or.inl ⟨by rfl, ?hy10n11⟩) (by assumption) ?rest10n11
          case hy10n11 =>
            intro w' hSw
            go_simp
            try with_reducible rfl
          try simp only [Act.put, List.getElem_toArray, List.getElem_cons_succ, List.getElem_cons_zero, List.setIfInBounds_toArray, List.set_cons_zero, List.set_cons_succ]
          refine wpAnyH_take (i := 11) (oi := _) (v := ?v11n12) rfl (by kernel_rfl) (by kernel_rfl) (by kernel_rfl) (fun _ _ _ h => h) (Or.inl ⟨by rfl, ?hy11n12⟩) (by assumption) ?rest11n12
          case hy11n12 =>
            intro w' hSw
            go_simp
            try with_reducible rfl
          try simp only [Act.put, List.getElem_toArray, List.getElem_cons_succ, List.getElem_cons_zero, List.setIfInBounds_toArray, List.set_cons_zero, List.set_cons_succ]
          refine wpAnyH_take (i := 12) (oi := _) (v := ?v12n13) rfl (by kernel_rfl) (by kernel_rfl) (by kernel_rfl) (fun _ _ _ h => h) (Or.inl ⟨by rfl, ?hy12n13⟩) (by assumption) ?rest12n13
          case hy12n13 =>
            intro w' hSw
            go_simp
            try with_reducible rfl
          try simp only [Act.put, List.getElem_toArray, List.getElem_cons_succ, List.getElem_cons_zero, List.setIfInBounds_toArray, List.set_cons_zero, List.set_cons_succ]
          refine' wpAnyH_take (i := 13) (oi := _) (v := _) rfl (by kernel_rfl) (by kernel_rfl) (by kernel_rfl) (fun _ _ _ h => h) (yieldsIf_load_mid (by rfl) _ _ rfl _ _ rfl _ _ ?hS13n14 Tryd.underlying28 rfl (info_d HOX.out.2)) (by assumption) ?rest13n14
          case hS13n14 =>
            intro w' hSw
            exact rng_n (hSw.la.at HX.out).2 HOX.out
          try simp only [Act.put, List.getElem_toArray, List.getElem_cons_succ, List.getElem_cons_zero, List.setIfInBounds_toArray, List.set_cons_zero, List.set_cons_succ]
          refine wpAnyH_ready (rs := [14]) (by kernel_rfl) (by simp) (AllReadyH.cons (o := _) rfl (fun K hK => ?_) AllReadyH.nil)
          go_simp
          with_reducible refine (kept_any x.p x.n _ HDN.out).mono ?_
          rintro e w3 ⟨rfl, hb3⟩
          go_wp2_with fail
          refine hK.out _ _ (HC2d.out.keep (Keep3.of_below hb3 hB2 hba2 hbb2)) (fun hHeld => ?_)
          clear hK K
          try simp only [Act.put, List.getElem_toArray, List.getElem_cons_succ, List.getElem_cons_zero, List.setIfInBounds_toArray, List.set_cons_zero, List.set_cons_succ]
          have HT3 := Lib.hid (HT2d.out.next hb3)
          clear hb3
          refine wpAnyH_ready (rs := [15]) (by kernel_rfl) (by simp) (AllReadyH.cons (o := _) rfl (fun K hK => ?_) AllReadyH.nil)
          rw [if_pos (by rfl)]
          refine wp_store_row 81 _ _ rfl (wr.heap.size) _ rfl rfl 81 Tryd.zeroCells81 HT3.out.x HI1.out ((rfl : (Tryd.zeroCells81).size = 65).trans HI1s.out) (cgA_one x) ?_
          have HT4 := Lib.hid (HT3.out.setx (cgL x).toArray)
          generalize World.setRow _ _ _ = w4 at HT4 ⊢
          have HS4 := Lib.hid (HC.out.keep (Keep3.of_below HT4.out.b hB' hba' hbb'))
          refine hK.out _ _ HS4.out (fun hHeld => ?_)
          clear hK K
          try simp only [Act.put, List.getElem_toArray, List.getElem_cons_succ, List.getElem_cons_zero, List.setIfInBounds_toArray, List.set_cons_zero, List.set_cons_succ]
          refine wpAnyH_ready (rs := [16]) (by kernel_rfl) (by simp) (AllReadyH.cons (o := _) rfl (fun K hK => ?_) AllReadyH.nil)
          rw [if_pos (by rfl)]
          refine wp_store_row 81 _ _ rfl (wr.heap.size + 1) _ rfl rfl 81 Tryd.zeroCells81 HT4.out.y HI2.out ((rfl : (Tryd.zeroCells81).size = 65).trans HI2s.out) (cgA_one (kp x.p x.n)) ?_
          have HT5 := Lib.hid (HT4.out.sety (cgL (kp x.p x.n)).toArray)
          generalize World.setRow _ _ _ = w5 at HT5 ⊢
          clear HS4
          have HS4 := Lib.hid (HC.out.keep (Keep3.of_below HT5.out.b hB' hba' hbb'))
          refine hK.out _ _ HS4.out (fun hHeld => ?_)
          clear hK K
          try simp only [Act.put, List.getElem_toArray, List.getElem_cons_succ, List.getElem_cons_zero, List.setIfInBounds_toArray, List.set_cons_zero, List.set_cons_succ]
          refine wpAnyH_done (by kernel_rfl) ?_ _
          have HQ := Lib.hid (sbs_go HS.out (sbs_A HX.out (.inr ⟨y, HYy.out, HXY.out⟩)) HOK.out)
          obtain ⟨fn, tmps, assign, body, hy, hR⟩ := HY.out pre ⟨(x, kp x.p x.n), HOK.out⟩ w5 (HJ.out pre wr w5 HJr.out HT5.out.b) (by rw [HQ.out, List.map_append, List.length_append, List.length_append]; simp; omega)
          simp only [encP] at hy
          gi_wp2_with (first
            | (refine wpListIn_load_rowS rfl 81 _ rfl (wr.heap.size + 1) rfl _ _ _ _ HT5.out.y Tryd.underlying81 rfl HI2.out ?_)
            | (refine wpListIn_load_rowS rfl 81 _ rfl wr.heap.size rfl _ _ _ _ HT5.out.x Tryd.underlying81 rfl HI1.out ?_))
          refine hR.mono ?_
          have hz5 := HT5.out.size
          clear hR hy
          rintro e W6 (⟨rfl, hJ6, hk6⟩ | ⟨rfl, hJx6⟩)
          · have HJ6 := Lib.hid hJ6
            have HC6 := Lib.hid (HS4.out.keep hk6)
            have hz6 := hk6.1
            clear hJ6 hk6
            gi_wp2
            go_roundw
            case rel => exact ⟨i + 1, j, pre ++ [⟨(x, kp x.p x.n), HOK.out⟩], by omega, by omega, by first | rfl | go_num, by first | rfl | go_num, HQ, HJ6, HC6, by omega⟩
            case measure => simp [intOf]; omega
          · have HJx6 := Lib.hid hJx6
            clear hJx6
            gi_wp2
            refine bodyPost_ret (results_none rfl _ _ _) rfl ?_
            exact ⟨⟨_, rfl⟩, .inr ⟨pre ++ [⟨(x, kp x.p x.n), HOK.out⟩], ⟨_, HQ.out.symm⟩, HJx6.out⟩⟩
        · have hxy : pls x.p y.p = false := by simpa using hxy
          have hd5 : Op.bytesLess x.p.toList y.p.toList = false := hxy
          have HXY := Lib.hid hxy; clear hxy
          by_cases hyx : pls y.p x.p = true
          · have hd6 : Op.bytesLess y.p.toList x.p.toList = true := hyx
            have HYX := Lib.hid hyx; clear hyx
            gi_wp2_with fail
            generalize hw1 : World.alloc (World.alloc wr _) _ = w1
            have HT1 : Hid (TwoB wr w1 Tryd.zeroCells81 Tryd.zeroCells81) := by show TwoB _ _ _ _; rw [← hw1]; exact TwoB.new _ _ _
            have HC1 := Lib.hid (HC.out.keep (Keep3.of_below HT1.out.b hB' hba' hbb'))
            clear hw1 hpa hpb
            have hpa := HC1.out.pa
            have hpb := HC1.out.pb
            have HOK : Hid (OkC (kp y.p y.o) ∧ OkC y) := ⟨⟨HOY.out.1, HOY.out.1⟩, HOY.out⟩
            have HI1 : Hid ((Tryd.prog.info? 81).map (·.size) = some (cgL (kp y.p y.o)).toArray.size) := by show _ = _; rw [List.size_toArray]; exact info_c HOK.out.1
            have HI1s : Hid (65 = (cgL (kp y.p y.o)).toArray.size) := by show _ = _; rw [List.size_toArray]; exact (cgL_length HOK.out.1).symm
            have HI2 : Hid ((Tryd.prog.info? 81).map (·.size) = some (cgL y).toArray.size) := by show _ = _; rw [List.size_toArray]; exact info_c HOK.out.2
            have HI2s : Hid (65 = (cgL y).toArray.size) := by show _ = _; rw [List.size_toArray]; exact (cgL_length HOK.out.2).symm
            have hxp := rng_p (HC1.out.la.at HX.out).2
            have hyp := rng_p (HC1.out.lb.at HYy.out).2
            refine wpIn_wide.2 ?_
            go_quiet (fail)
            have hbq : Below w1.heap.size w1 (w1.drewN nq) := ⟨rfl, rfl, rfl, Nat.le_refl _, fun _ _ => rfl⟩
            have HT2 := Lib.hid (HT1.out.next hbq)
            clear hbq
            generalize World.drewN w1 nq = w2 at HT2 ⊢
            clear HT1 HC1 hpa hpb hxp hyp
            clear w1
            rename World => w1
            have HT1 := HT2
            clear HT2
            have HC1 := Lib.hid (HC.out.keep (Keep3.of_below HT1.out.b hB' hba' hbb'))
            have hpa := HC1.out.pa
            have hpb := HC1.out.pb
            have hxp := rng_p (HC1.out.la.at HX.out).2
            have hyp := rng_p (HC1.out.lb.at HYy.out).2
            gi_wp2_with fail
            refine wpIn_wide.2 ?_
            go_quiet (fail)
            have hbq : Below w1.heap.size w1 (w1.drewN nq) := ⟨rfl, rfl, rfl, Nat.le_refl _, fun _ _ => rfl⟩
            have HT2 := Lib.hid (HT1.out.next hbq)
            clear hbq
            generalize World.drewN w1 nq = w2 at HT2 ⊢
            have HC2 := Lib.hid (HC.out.keep (Keep3.of_below HT2.out.b hB' hba' hbb'))
            have HT2d := Lib.hid (HT2.out.next ((Below.refl w2.heap.size w2).drew))
            have HC2d := Lib.hid (HC.out.keep (Keep3.of_below HT2d.out.b hB' hba' hbb'))
            have hz2 := HT2.out.size
            have hB2 : B ≤ w2.drew.heap.size := by show B ≤ w2.heap.size; omega
            have hba2 : ba < w2.drew.heap.size := by show ba < w2.heap.size; omega
            have hbb2 : bb < w2.drew.heap.size := by show bb < w2.heap.size; omega
            gi_wp2_with fail
            refine wpIn_wide.2 ?_
            refine wp_region_held_drew (S := fun w' => SbIn w' B ba bb (some ⟨g1, o1, none⟩) na ca a (some ⟨g2, o2, none⟩) nb cb b) (by kernel_rfl) HC2d.out (fun hHeld => ?_)
            refine wpAnyH_take (i := 0) (oi := _) (v := ?v0n15) rfl (by kernel_rfl) (by kernel_rfl) (by kernel_rfl) (fun _ _ _ h => h) (Or.inl ⟨by rfl, ?hy0n15⟩) (by assumption) ?rest0n15
            case hy0n15 =>
              intro w' hSw
              have h1 := hSw.pb
              go_simp
              try with_reducible rfl
            try simp only [Act.put, List.getElem_toArray, List.getElem_cons_succ, List.getElem_cons_zero, List.setIfInBounds_toArray, List.set_cons_zero, List.set_cons_succ]
            refine wpAnyH_take (i := 1) (oi := _) (v := ?v1n16) rfl (by kernel_rfl) (by kernel_rfl) (by kernel_rfl) (fun _ _ _ h => h) (Or.inl ⟨by rfl, ?hy1n16⟩) (by assumption) ?rest1n16
            case hy1n16 =>
              intro w' hSw
              go_simp
              try with_reducible rfl
            try simp only [Act.put, List.getElem_toArray, List.getElem_cons_succ, List.getElem_cons_zero, List.setIfInBounds_toArray, List.set_cons_zero, List.set_cons_succ]
            refine wpAnyH_take (i := 2) (oi := _) (v := ?v2n17) rfl (by kernel_rfl) (by kernel_rfl) (by kernel_rfl) (fun _ _ _ h => h) (Or.inl ⟨by rfl, ?hy2n17⟩) (by assumption) ?rest2n17
            case hy2n17 =>
              intro w' hSw
              go_simp
              try with_reducible rfl
            try simp only [Act.put, List.getElem_toArray, List.getElem_cons_succ, List.getElem_cons_zero, List.setIfInBounds_toArray, List.set_cons_zero, List.set_cons_succ]
            refine wpAnyH_take (i := 3) (oi := _) (v := ?v3n18) rfl (by kernel_rfl) (by kernel_rfl) (by kernel_rfl) (fun _ _ _ h => h) (Or.inl ⟨by rfl, ?hy3n18⟩) (by assumption) ?rest3n18
            case hy3n18 =>
              intro w' hSw
              go_simp
              try with_reducible rfl
            try simp only [Act.put, List.getElem_toArray, List.getElem_cons_succ, List.getElem_cons_zero, List.setIfInBounds_toArray, List.set_cons_zero, List.set_cons_succ]
            refine wpAnyH_take (i := 4) (oi := _) (v := ?v4n19) rfl (by kernel_rfl) (by kernel_rfl) (by kernel_rfl) (fun _ _ _ h => h) (Or.inl ⟨by rfl, ?hy4n19⟩) (by assumption) ?rest4n19
            case hy4n19 =>
              intro w' hSw
              have h1 := rng_p (hSw.lb.at HYy.out).2
              go_simp
              try with_reducible rfl
            try simp only [Act.put, List.getElem_toArray, List.getElem_cons_succ, List.getElem_cons_zero, List.setIfInBounds_toArray, List.set_cons_zero, List.set_cons_succ]
            refine wpAnyH_take (i := 5) (oi := _) (v := ?v5n20) rfl (by kernel_rfl) (by kernel_rfl) (by kernel_rfl) (fun _ _ _ h => h) (Or.inl ⟨by rfl, ?hy5n20⟩) (by assumption) ?rest5n20
            case hy5n20 =>
              intro w' hSw
              have h1 := hSw.pb
              go_simp
              try with_reducible rfl
            try simp only [Act.put, List.getElem_toArray, List.getElem_cons_succ, List.getElem_cons_zero, List.setIfInBounds_toArray, List.set_cons_zero, List.set_cons_succ]
            refine wpAnyH_take (i := 6) (oi := _) (v := ?v6n21) rfl (by kernel_rfl) (by kernel_rfl) (by kernel_rfl) (fun _ _ _ h => h) (Or.inl ⟨by rfl, ?hy6n21⟩) (by assumption) ?rest6n21
            case hy6n21 =>
              intro w' hSw
              go_simp
              try with_reducible rfl
            try simp only [Act.put, List.getElem_toArray, List.getElem_cons_succ, List.getElem_cons_zero, List.setIfInBounds_toArray, List.set_cons_zero, List.set_cons_succ]
            refine wpAnyH_take (i := 7) (oi := _) (v := ?v7n22) rfl (by kernel_rfl) (by kernel_rfl) (by kernel_rfl) (fun _ _ _ h => h) (Or.inl ⟨by rfl, ?hy7n22⟩) (by assumption) ?rest7n22
            case hy7n22 =>
              intro w' hSw
              go_simp
              try with_reducible rfl
            try simp only [Act.put, List.getElem_toArray, List.getElem_cons_succ, List.getElem_cons_zero, List.setIfInBounds_toArray, List.set_cons_zero, List.set_cons_succ]
            refine wpAnyH_take (i := 8) (oi := _) (v := ?v8n23) rfl (by kernel_rfl) (by kernel_rfl) (by kernel_rfl) (fun _ _ _ h => h) (Or.inl ⟨by rfl, ?hy8n23⟩) (by assumption) ?rest8n23
            case hy8n23 =>
              intro w' hSw
              go_simp
              try with_reducible rfl
            try simp only [Act.put, List.getElem_toArray, List.getElem_cons_succ, List.getElem_cons_zero, List.setIfInBounds_toArray, List.set_cons_zero, List.set_cons_succ]
            refine' wpAnyH_take (i := 9) (oi := _) (v := _) rfl (by kernel_rfl) (by kernel_rfl) (by kernel_rfl) (fun _ _ _ h => h) (yieldsIf_load_mid (by rfl) _ _ rfl _ _ rfl _ _ ?hS9n24 Tryd.underlying28 rfl (info_d HOY.out.1)) (by assumption) ?rest9n24
            case hS9n24 =>
              intro w' hSw
              exact rng_o (hSw.lb.at HYy.out).2
            try simp only [Act.put, List.getElem_toArray, List.getElem_cons_succ, List.getElem_cons_zero, List.setIfInBounds_toArray, List.set_cons_zero, List.set_cons_succ]
            refine wpAnyH_take (i := 11) (oi := _) (v := ?v11n25) rfl (by kernel_rfl) (by kernel_rfl) (by kernel_rfl) (fun _ _ _ h => h) (Or.inl ⟨by rfl, ?hy11n25⟩) (by assumption) ?rest11n25
            case hy11n25 =>
              intro w' hSw
              have h1 := hSw.pb
              go_simp
              try with_reducible rfl
            try simp only [Act.put, List.getElem_toArray, List.getElem_cons_succ, List.getElem_cons_zero, List.setIfInBounds_toArray, List.set_cons_zero, List.set_cons_succ]
            refine wpAnyH_take (i := 12) (oi := _) (v := ?v12n26) rfl (by kernel_rfl) (by kernel_rfl) (by kernel_rfl) (fun _ _ _ h => h) (Or.inl ⟨by rfl, ?hy12n26⟩) (by assumption) ?rest12n26
            case hy12n26 =>
              intro w' hSw
              go_simp
              try with_reducible rfl
            try simp only [Act.put, List.getElem_toArray, List.getElem_cons_succ, List.getElem_cons_zero, List.setIfInBounds_toArray, List.set_cons_zero, List.set_cons_succ]
            refine wpAnyH_take (i := 13) (oi := _) (v := ?v13n27) rfl (by kernel_rfl) (by kernel_rfl) (by kernel_rfl) (fun _ _ _ h => h) (Or.inl ⟨by rfl, ?hy13n27⟩) (by assumption) ?rest13n27
            case hy13n27 =>
              intro w' hSw
              go_simp
              try with_reducible rfl
            try simp only [Act.put, List.getElem_toArray, List.getElem_cons_succ, List.getElem_cons_zero, List.setIfInBounds_toArray, List.set_cons_zero, List.set_cons_succ]
            refine' wpAnyH_take (i := 14) (oi := _) (v := _) rfl (by kernel_rfl) (by kernel_rfl) (by kernel_rfl) (fun _ _ _ h => h) (yieldsIf_load_mid (by rfl) _ _ rfl _ _ rfl _ _ ?hS14n28 Tryd.underlying81 rfl (info_c HOY.out)) (by assumption) ?rest14n28
            case hS14n28 =>
              intro w' hSw
              exact (hSw.lb.at HYy.out).2
            try simp only [Act.put, List.getElem_toArray, List.getElem_cons_succ, List.getElem_cons_zero, List.setIfInBounds_toArray, List.set_cons_zero, List.set_cons_succ]
            refine wpAnyH_ready (rs := [10]) (by kernel_rfl) (by simp) (AllReadyH.cons (o := _) rfl (fun K hK => ?_) AllReadyH.nil)
            go_simp
            with_reducible refine (kept_any y.p y.o _ HDO.out).mono ?_
            rintro e w3 ⟨rfl, hb3⟩
            go_wp2_with fail
            refine hK.out _ _ (HC2d.out.keep (Keep3.of_below hb3 hB2 hba2 hbb2)) (fun hHeld => ?_)
            clear hK K
            try simp only [Act.put, List.getElem_toArray, List.getElem_cons_succ, List.getElem_cons_zero, List.setIfInBounds_toArray, List.set_cons_zero, List.set_cons_succ]
            have HT3 := Lib.hid (HT2d.out.next hb3)
            clear hb3
            refine wpAnyH_ready (rs := [15]) (by kernel_rfl) (by simp) (AllReadyH.cons (o := _) rfl (fun K hK => ?_) AllReadyH.nil)
            rw [if_pos (by rfl)]
            refine wp_store_row 81 _ _ rfl (wr.heap.size) _ rfl rfl 81 Tryd.zeroCells81 HT3.out.x HI1.out ((rfl : (Tryd.zeroCells81).size = 65).trans HI1s.out) (cgA_one (kp y.p y.o)) ?_
            have HT4 := Lib.hid (HT3.out.setx (cgL (kp y.p y.o)).toArray)
            generalize World.setRow _ _ _ = w4 at HT4 ⊢
            have HS4 := Lib.hid (HC.out.keep (Keep3.of_below HT4.out.b hB' hba' hbb'))
            refine hK.out _ _ HS4.out (fun hHeld => ?_)
            clear hK K
            try simp only [Act.put, List.getElem_toArray, List.getElem_cons_succ, List.getElem_cons_zero, List.setIfInBounds_toArray, List.set_cons_zero, List.set_cons_succ]
            refine wpAnyH_ready (rs := [16]) (by kernel_rfl) (by simp) (AllReadyH.cons (o := _) rfl (fun K hK => ?_) AllReadyH.nil)
            rw [if_pos (by rfl)]
            refine wp_store_row 81 _ _ rfl (wr.heap.size + 1) _ rfl rfl 81 Tryd.zeroCells81 HT4.out.y HI2.out ((rfl : (Tryd.zeroCells81).size = 65).trans HI2s.out) (cgA_one y) ?_
            have HT5 := Lib.hid (HT4.out.sety (cgL y).toArray)
            generalize World.setRow _ _ _ = w5 at HT5 ⊢
            clear HS4
            have HS4 := Lib.hid (HC.out.keep (Keep3.of_below HT5.out.b hB' hba' hbb'))
            refine hK.out _ _ HS4.out (fun hHeld => ?_)
            clear hK K
            try simp only [Act.put, List.getElem_toArray, List.getElem_cons_succ, List.getElem_cons_zero, List.setIfInBounds_toArray, List.set_cons_zero, List.set_cons_succ]
            refine wpAnyH_done (by kernel_rfl) ?_ _
            have HQ := Lib.hid (sbs_go HS.out (sbs_B HYy.out (.inr ⟨x, HX.out, HXY.out, HYX.out⟩)) HOK.out)
            obtain ⟨fn, tmps, assign, body, hy, hR⟩ := HY.out pre ⟨(kp y.p y.o, y), HOK.out⟩ w5 (HJ.out pre wr w5 HJr.out HT5.out.b) (by rw [HQ.out, List.map_append, List.length_append, List.length_append]; simp; omega)
            simp only [encP] at hy
            gi_wp2_with (first
              | (refine wpListIn_load_rowS rfl 81 _ rfl (wr.heap.size + 1) rfl _ _ _ _ HT5.out.y Tryd.underlying81 rfl HI2.out ?_)
              | (refine wpListIn_load_rowS rfl 81 _ rfl wr.heap.size rfl _ _ _ _ HT5.out.x Tryd.underlying81 rfl HI1.out ?_))
            refine hR.mono ?_
            have hz5 := HT5.out.size
            clear hR hy
            rintro e W6 (⟨rfl, hJ6, hk6⟩ | ⟨rfl, hJx6⟩)
            · have HJ6 := Lib.hid hJ6
              have HC6 := Lib.hid (HS4.out.keep hk6)
              have hz6 := hk6.1
              clear hJ6 hk6
              gi_wp2
              go_roundw
              case rel => exact ⟨i, j + 1, pre ++ [⟨(kp y.p y.o, y), HOK.out⟩], by omega, by omega, by first | rfl | go_num, by first | rfl | go_num, HQ, HJ6, HC6, by omega⟩
              case measure => simp [intOf]; omega
            · have HJx6 := Lib.hid hJx6
              clear hJx6
              gi_wp2
              refine bodyPost_ret (results_none rfl _ _ _) rfl ?_
              exact ⟨⟨_, rfl⟩, .inr ⟨pre ++ [⟨(kp y.p y.o, y), HOK.out⟩], ⟨_, HQ.out.symm⟩, HJx6.out⟩⟩
          · have hyx : pls y.p x.p = false := by simpa using hyx
            have hd6 : Op.bytesLess y.p.toList x.p.toList = false := hyx
            have HYX := Lib.hid hyx; clear hyx
            gi_wp2_with fail
            generalize hw1 : World.alloc (World.alloc wr _) _ = w1
            have HT1 : Hid (TwoB wr w1 Tryd.zeroCells81 Tryd.zeroCells81) := by show TwoB _ _ _ _; rw [← hw1]; exact TwoB.new _ _ _
            have HC1 := Lib.hid (HC.out.keep (Keep3.of_below HT1.out.b hB' hba' hbb'))
            clear hw1 hpa hpb
            have hpa := HC1.out.pa
            have hpb := HC1.out.pb
            have HOK : Hid (OkC x ∧ OkC y) := ⟨HOX.out, HOY.out⟩
            have HI1 : Hid ((Tryd.prog.info? 81).map (·.size) = some (cgL x).toArray.size) := by show _ = _; rw [List.size_toArray]; exact info_c HOK.out.1
            have HI1s : Hid (65 = (cgL x).toArray.size) := by show _ = _; rw [List.size_toArray]; exact (cgL_length HOK.out.1).symm
            have HI2 : Hid ((Tryd.prog.info? 81).map (·.size) = some (cgL y).toArray.size) := by show _ = _; rw [List.size_toArray]; exact info_c HOK.out.2
            have HI2s : Hid (65 = (cgL y).toArray.size) := by show _ = _; rw [List.size_toArray]; exact (cgL_length HOK.out.2).symm
            have hxp := rng_p (HC1.out.la.at HX.out).2
            have hyp := rng_p (HC1.out.lb.at HYy.out).2
            refine wpIn_wide.2 ?_
            go_quiet (fail)
            have hbq : Below w1.heap.size w1 (w1.drewN nq) := ⟨rfl, rfl, rfl, Nat.le_refl _, fun _ _ => rfl⟩
            have HT2 := Lib.hid (HT1.out.next hbq)
            clear hbq
            generalize World.drewN w1 nq = w2 at HT2 ⊢
            clear HT1 HC1 hpa hpb hxp hyp
            clear w1
            rename World => w1
            have HT1 := HT2
            clear HT2
            have HC1 := Lib.hid (HC.out.keep (Keep3.of_below HT1.out.b hB' hba' hbb'))
            have hpa := HC1.out.pa
            have hpb := HC1.out.pb
            have hxp := rng_p (HC1.out.la.at HX.out).2
            have hyp := rng_p (HC1.out.lb.at HYy.out).2
            gi_wp2_with fail
            refine wpIn_wide.2 ?_
            go_quiet (fail)
            have hbq : Below w1.heap.size w1 (w1.drewN nq) := ⟨rfl, rfl, rfl, Nat.le_refl _, fun _ _ => rfl⟩
            have HT2 := Lib.hid (HT1.out.next hbq)
            clear hbq
            generalize World.drewN w1 nq = w2 at HT2 ⊢
            have HC2 := Lib.hid (HC.out.keep (Keep3.of_below HT2.out.b hB' hba' hbb'))
            have HT2d := Lib.hid (HT2.out.next ((Below.refl w2.heap.size w2).drew))
            have HC2d := Lib.hid (HC.out.keep (Keep3.of_below HT2d.out.b hB' hba' hbb'))
            have hz2 := HT2.out.size
            have hB2 : B ≤ w2.drew.heap.size := by show B ≤ w2.heap.size; omega
            have hba2 : ba < w2.drew.heap.size := by show ba < w2.heap.size; omega
            have hbb2 : bb < w2.drew.heap.size := by show bb < w2.heap.size; omega
            gi_wp2_with fail
            refine wpIn_wide.2 ?_
            refine wp_region_held_drew (S := fun w' => SbIn w' B ba bb (some ⟨g1, o1, none⟩) na ca a (some ⟨g2, o2, none⟩) nb cb b) (by kernel_rfl) HC2d.out (fun hHeld => ?_)
            refine wpAnyH_take (i := 0) (oi := _) (v := ?v0n29) rfl (by kernel_rfl) (by kernel_rfl) (by kernel_rfl) (fun _ _ _ h => h) (Or.inl ⟨by rfl, ?hy0n29⟩) (by assumption) ?rest0n29
            case hy0n29 =>
              intro w' hSw
              have h1 := hSw.pa
              go_simp
              try with_reducible rfl
            try simp only [Act.put, List.getElem_toArray, List.getElem_cons_succ, List.getElem_cons_zero, List.setIfInBounds_toArray, List.set_cons_zero, List.set_cons_succ]
            refine wpAnyH_take (i := 1) (oi := _) (v := ?v1n30) rfl (by kernel_rfl) (by kernel_rfl) (by kernel_rfl) (fun _ _ _ h => h) (Or.inl ⟨by rfl, ?hy1n30⟩) (by assumption) ?rest1n30
            case hy1n30 =>
              intro w' hSw
              go_simp
              try with_reducible rfl
            try simp only [Act.put, List.getElem_toArray, List.getElem_cons_succ, List.getElem_cons_zero, List.setIfInBounds_toArray, List.set_cons_zero, List.set_cons_succ]
            refine wpAnyH_take (i := 2) (oi := _) (v := ?v2n31) rfl (by kernel_rfl) (by kernel_rfl) (by kernel_rfl) (fun _ _ _ h => h) (Or.inl ⟨by rfl, ?hy2n31⟩) (by assumption) ?rest2n31
            case hy2n31 =>
              intro w' hSw
              go_simp
              try with_reducible rfl
            try simp only [Act.put, List.getElem_toArray, List.getElem_cons_succ, List.getElem_cons_zero, List.setIfInBounds_toArray, List.set_cons_zero, List.set_cons_succ]
            refine' wpAnyH_take (i := 3) (oi := _) (v := _) rfl (by kernel_rfl) (by kernel_rfl) (by kernel_rfl) (fun _ _ _ h => h) (yieldsIf_load_mid (by rfl) _ _ rfl _ _ rfl _ _ ?hS3n32 Tryd.underlying81 rfl (info_c HOX.out)) (by assumption) ?rest3n32
            case hS3n32 =>
              intro w' hSw
              exact (hSw.la.at HX.out).2
            try simp only [Act.put, List.getElem_toArray, List.getElem_cons_succ, List.getElem_cons_zero, List.setIfInBounds_toArray, List.set_cons_zero, List.set_cons_succ]
            refine wpAnyH_take (i := 4) (oi := _) (v := ?v4n33) rfl (by kernel_rfl) (by kernel_rfl) (by kernel_rfl) (fun _ _ _ h => h) (Or.inl ⟨by rfl, ?hy4n33⟩) (by assumption) ?rest4n33
            case hy4n33 =>
              intro w' hSw
              have h1 := hSw.pb
              go_simp
              try with_reducible rfl
            try simp only [Act.put, List.getElem_toArray, List.getElem_cons_succ, List.getElem_cons_zero, List.setIfInBounds_toArray, List.set_cons_zero, List.set_cons_succ]
            refine wpAnyH_take (i := 5) (oi := _) (v := ?v5n34) rfl (by kernel_rfl) (by kernel_rfl) (by kernel_rfl) (fun _ _ _ h => h) (Or.inl ⟨by rfl, ?hy5n34⟩) (by assumption) ?rest5n34
            case hy5n34 =>
              intro w' hSw
              go_simp
              try with_reducible rfl
            try simp only [Act.put, List.getElem_toArray, List.getElem_cons_succ, List.getElem_cons_zero, List.setIfInBounds_toArray, List.set_cons_zero, List.set_cons_succ]
            refine wpAnyH_take (i := 6) (oi := _) (v := ?v6n35) rfl (by kernel_rfl) (by kernel_rfl) (by kernel_rfl) (fun _ _ _ h => h) (Or.inl ⟨by rfl, ?hy6n35⟩) (by assumption) ?rest6n35
            case hy6n35 =>
              intro w' hSw
              go_simp
              try with_reducible rfl
            try simp only [Act.put, List.getElem_toArray, List.getElem_cons_succ, List.getElem_cons_zero, List.setIfInBounds_toArray, List.set_cons_zero, List.set_cons_succ]
            refine' wpAnyH_take (i := 7) (oi := _) (v := _) rfl (by kernel_rfl) (by kernel_rfl) (by kernel_rfl) (fun _ _ _ h => h) (yieldsIf_load_mid (by rfl) _ _ rfl _ _ rfl _ _ ?hS7n36 Tryd.underlying81 rfl (info_c HOY.out)) (by assumption) ?rest7n36
            case hS7n36 =>
              intro w' hSw
              exact (hSw.lb.at HYy.out).2
            try simp only [Act.put, List.getElem_toArray, List.getElem_cons_succ, List.getElem_cons_zero, List.setIfInBounds_toArray, List.set_cons_zero, List.set_cons_succ]
            have HT3 := HT2d
            refine wpAnyH_ready (rs := [8]) (by kernel_rfl) (by simp) (AllReadyH.cons (o := _) rfl (fun K hK => ?_) AllReadyH.nil)
            rw [if_pos (by rfl)]
            refine wp_store_row 81 _ _ rfl (wr.heap.size) _ rfl rfl 81 Tryd.zeroCells81 HT3.out.x HI1.out ((rfl : (Tryd.zeroCells81).size = 65).trans HI1s.out) (cgA_one x) ?_
            have HT4 := Lib.hid (HT3.out.setx (cgL x).toArray)
            generalize World.setRow _ _ _ = w4 at HT4 ⊢
            have HS4 := Lib.hid (HC.out.keep (Keep3.of_below HT4.out.b hB' hba' hbb'))
            refine hK.out _ _ HS4.out (fun hHeld => ?_)
            clear hK K
            try simp only [Act.put, List.getElem_toArray, List.getElem_cons_succ, List.getElem_cons_zero, List.setIfInBounds_toArray, List.set_cons_zero, List.set_cons_succ]
            refine wpAnyH_ready (rs := [9]) (by kernel_rfl) (by simp) (AllReadyH.cons (o := _) rfl (fun K hK => ?_) AllReadyH.nil)
            rw [if_pos (by rfl)]
            refine wp_store_row 81 _ _ rfl (wr.heap.size + 1) _ rfl rfl 81 Tryd.zeroCells81 HT4.out.y HI2.out ((rfl : (Tryd.zeroCells81).size = 65).trans HI2s.out) (cgA_one y) ?_
            have HT5 := Lib.hid (HT4.out.sety (cgL y).toArray)
            generalize World.setRow _ _ _ = w5 at HT5 ⊢
            clear HS4
            have HS4 := Lib.hid (HC.out.keep (Keep3.of_below HT5.out.b hB' hba' hbb'))
            refine hK.out _ _ HS4.out (fun hHeld => ?_)
            clear hK K
            try simp only [Act.put, List.getElem_toArray, List.getElem_cons_succ, List.getElem_cons_zero, List.setIfInBounds_toArray, List.set_cons_zero, List.set_cons_succ]
            refine wpAnyH_done (by kernel_rfl) ?_ _
            have HQ := Lib.hid (sbs_go HS.out (sbs_C HX.out HYy.out HXY.out HYX.out) HOK.out)
            obtain ⟨fn, tmps, assign, body, hy, hR⟩ := HY.out pre ⟨(x, y), HOK.out⟩ w5 (HJ.out pre wr w5 HJr.out HT5.out.b) (by rw [HQ.out, List.map_append, List.length_append, List.length_append]; simp; omega)
            simp only [encP] at hy
            gi_wp2_with (first
              | (refine wpListIn_load_rowS rfl 81 _ rfl (wr.heap.size + 1) rfl _ _ _ _ HT5.out.y Tryd.underlying81 rfl HI2.out ?_)
              | (refine wpListIn_load_rowS rfl 81 _ rfl wr.heap.size rfl _ _ _ _ HT5.out.x Tryd.underlying81 rfl HI1.out ?_))
            refine hR.mono ?_
            have hz5 := HT5.out.size
            clear hR hy
            rintro e W6 (⟨rfl, hJ6, hk6⟩ | ⟨rfl, hJx6⟩)
            · have HJ6 := Lib.hid hJ6
              have HC6 := Lib.hid (HS4.out.keep hk6)
              have hz6 := hk6.1
              clear hJ6 hk6
              gi_wp2
              go_roundw
              case rel => exact ⟨i + 1, j + 1, pre ++ [⟨(x, y), HOK.out⟩], by omega, by omega, by first | rfl | go_num, by first | rfl | go_num, HQ, HJ6, HC6, by omega⟩
              case measure => simp [intOf]; omega
            · have HJx6 := Lib.hid hJx6
              clear hJx6
              gi_wp2
              refine bodyPost_ret (results_none rfl _ _ _) rfl ?_
              exact ⟨⟨_, rfl⟩, .inr ⟨pre ++ [⟨(x, y), HOK.out⟩], ⟨_, HQ.out.symm⟩, HJx6.out⟩⟩
      · obtain rfl : j = nb := by omega
        have HDR : Hid (b.drop j = []) := List.drop_eq_nil_of_le (by have := HC.out.lb.len; omega)
        have hd3 : ((j : Int) == (j : Int)) = true := by simp
        gi_wp2_with fail
        generalize hw1 : World.alloc (World.alloc wr _) _ = w1
        have HT1 : Hid (TwoB wr w1 Tryd.zeroCells81 Tryd.zeroCells81) := by show TwoB _ _ _ _; rw [← hw1]; exact TwoB.new _ _ _
        have HC1 := Lib.hid (HC.out.keep (Keep3.of_below HT1.out.b hB' hba' hbb'))
        clear hw1 hpa hpb
        have hpa := HC1.out.pa
        have hpb := HC1.out.pb
        have HOK : Hid (OkC x ∧ OkC (kp x.p x.n)) := ⟨HOX.out, HOX.out.2, HOX.out.2⟩
        have HI1 : Hid ((Tryd.prog.info? 81).map (·.size) = some (cgL x).toArray.size) := by show _ = _; rw [List.size_toArray]; exact info_c HOK.out.1
        have HI1s : Hid (65 = (cgL x).toArray.size) := by show _ = _; rw [List.size_toArray]; exact (cgL_length HOK.out.1).symm
        have HI2 : Hid ((Tryd.prog.info? 81).map (·.size) = some (cgL (kp x.p x.n)).toArray.size) := by show _ = _; rw [List.size_toArray]; exact info_c HOK.out.2
        have HI2s : Hid (65 = (cgL (kp x.p x.n)).toArray.size) := by show _ = _; rw [List.size_toArray]; exact (cgL_length HOK.out.2).symm
        refine wpIn_wide.2 ?_
        go_quiet (fail)
        have hbq : Below w1.heap.size w1 (w1.drewN nq) := ⟨rfl, rfl, rfl, Nat.le_refl _, fun _ _ => rfl⟩
        have HT2 := Lib.hid (HT1.out.next hbq)
        clear hbq
        generalize World.drewN w1 nq = w2 at HT2 ⊢
        have HC2 := Lib.hid (HC.out.keep (Keep3.of_below HT2.out.b hB' hba' hbb'))
        have HT2d := Lib.hid (HT2.out.next ((Below.refl w2.heap.size w2).drew))
        have HC2d := Lib.hid (HC.out.keep (Keep3.of_below HT2d.out.b hB' hba' hbb'))
        have hz2 := HT2.out.size
        have hB2 : B ≤ w2.drew.heap.size := by show B ≤ w2.heap.size; omega
        have hba2 : ba < w2.drew.heap.size := by show ba < w2.heap.size; omega
        have hbb2 : bb < w2.drew.heap.size := by show bb < w2.heap.size; omega
        gi_wp2_with fail
        refine wpIn_wide.2 ?_
        refine wp_region_held_drew (S := fun w' => SbIn w' B ba bb (some ⟨g1, o1, none⟩) na ca a spb j cb b) (by kernel_rfl) HC2d.out (fun hHeld => ?_)
        refine wpAnyH_take (i := 0) (oi := _) (v := ?v0n37) rfl (by kernel_rfl) (by kernel_rfl) (by kernel_rfl) (fun _ _ _ h => h) (Or.inl ⟨by rfl, ?hy0n37⟩) (by assumption) ?rest0n37
        case hy0n37 =>
          intro w' hSw
          have h1 := hSw.pa
          go_simp
          try with_reducible rfl
        try simp only [Act.put, List.getElem_toArray, List.getElem_cons_succ, List.getElem_cons_zero, List.setIfInBounds_toArray, List.set_cons_zero, List.set_cons_succ]
        refine wpAnyH_take (i := 1) (oi := _) (v := ?v1n38) rfl (by kernel_rfl) (by kernel_rfl) (by kernel_rfl) (fun _ _ _ h => h) (Or.inl ⟨by rfl, ?hy1n38⟩) (by assumption) ?rest1n38
        case hy1n38 =>
          intro w' hSw
          go_simp
          try with_reducible rfl
        try simp only [Act.put, List.getElem_toArray, List.getElem_cons_succ, List.getElem_cons_zero, List.setIfInBounds_toArray, List.set_cons_zero, List.set_cons_succ]
        refine wpAnyH_take (i := 2) (oi := _) (v := ?v2n39) rfl (by kernel_rfl) (by kernel_rfl) (by kernel_rfl) (fun _ _ _ h => h) (Or.inl ⟨by rfl, ?hy2n39⟩) (by assumption) ?rest2n39
        case hy2n39 =>
          intro w' hSw
          go_simp
          try with_reducible rfl
        try simp only [Act.put, List.getElem_toArray, List.getElem_cons_succ, List.getElem_cons_zero, List.setIfInBounds_toArray, List.set_cons_zero, List.set_cons_succ]
        refine' wpAnyH_take (i := 3) (oi := _) (v := _) rfl (by kernel_rfl) (by kernel_rfl) (by kernel_rfl) (fun _ _ _ h => h) (yieldsIf_load_mid (by rfl) _ _ rfl _ _ rfl _ _ ?hS3n40 Tryd.underlying81 rfl (info_c HOX.out)) (by assumption) ?rest3n40
        case hS3n40 =>
          intro w' hSw
          exact (hSw.la.at HX.out).2
        try simp only [Act.put, List.getElem_toArray, List.getElem_cons_succ, List.getElem_cons_zero, List.setIfInBounds_toArray, List.set_cons_zero, List.set_cons_succ]
        refine wpAnyH_take (i := 4) (oi := _) (v := ?v4n41) rfl (by kernel_rfl) (by kernel_rfl) (by kernel_rfl) (fun _ _ _ h => h) (Or.inl ⟨by rfl, ?hy4n41⟩) (by assumption) ?rest4n41
        case hy4n41 =>
          intro w' hSw
          have h1 := hSw.pa
          go_simp
          try with_reducible rfl
        try simp only [Act.put, List.getElem_toArray, List.getElem_cons_succ, List.getElem_cons_zero, List.setIfInBounds_toArray, List.set_cons_zero, List.set_cons_succ]
        refine wpAnyH_take (i := 5) (oi := _) (v := ?v5n42) rfl (by kernel_rfl) (by kernel_rfl) (by kernel_rfl) (fun _ _ _ h => h) (Or.inl ⟨by rfl, ?hy5n42⟩) (by assumption) ?rest5n42
        case hy5n42 =>
          intro w' hSw
          go_simp
          try with_reducible rfl
        try simp only [Act.put, List.getElem_toArray, List.getElem_cons_succ, List.getElem_cons_zero, List.setIfInBounds_toArray, List.set_cons_zero, List.set_cons_succ]
        refine wpAnyH_take (i := 6) (oi := _) (v := ?v6n43) rfl (by kernel_rfl) (by kernel_rfl) (by kernel_rfl) (fun _ _ _ h => h) (Or.inl ⟨by rfl, ?hy6n43⟩) (by assumption) ?rest6n43
        case hy6n43 =>
          intro w' hSw
          go_simp
          try with_reducible rfl
        try simp only [Act.put, List.getElem_toArray, List.getElem_cons_succ, List.getElem_cons_zero, List.setIfInBounds_toArray, List.set_cons_zero, List.set_cons_succ]
        refine wpAnyH_take (i := 7) (oi := _) (v := ?v7n44) rfl (by kernel_rfl) (by kernel_rfl) (by kernel_rfl) (fun _ _ _ h => h) (Or.inl ⟨by rfl, ?hy7n44⟩) (by assumption) ?rest7n44
        case hy7n44 =>
          intro w' hSw
          go_simp
          try with_reducible rfl
        try simp only [Act.put, List.getElem_toArray, List.getElem_cons_succ, List.getElem_cons_zero, List.setIfInBounds_toArray, List.set_cons_zero, List.set_cons_succ]
        refine wpAnyH_take (i := 8) (oi := _) (v := ?v8n45) rfl (by kernel_rfl) (by kernel_rfl) (by kernel_rfl) (fun _ _ _ h => h) (Or.inl ⟨by rfl, ?hy8n45⟩) (by assumption) ?rest8n45
        case hy8n45 =>
          intro w' hSw
          have h1 := rng_p (hSw.la.at HX.out).2
          go_simp
          try with_reducible rfl
        try simp only [Act.put, List.getElem_toArray, List.getElem_cons_succ, List.getElem_cons_zero, List.setIfInBounds_toArray, List.set_cons_zero, List.set_cons_succ]
        refine wpAnyH_take (i := 9) (oi := _) (v := ?v9n46) rfl (by kernel_rfl) (by kernel_rfl) (by kernel_rfl) (fun _ _ _ h => h) (Or.inl ⟨by rfl, ?hy9n46⟩) (by assumption) ?rest9n46
        case hy9n46 =>
          intro w' hSw
          have h1 := hSw.pa
          go_simp
          try with_reducible rfl
        try simp only [Act.put, List.getElem_toArray, List.getElem_cons_succ, List.getElem_cons_zero, List.setIfInBounds_toArray, List.set_cons_zero, List.set_cons_succ]
        refine wpAnyH_take (i := 10) (oi := _) (v := ?v10n47) rfl (by kernel_rfl) (by kernel_rfl) (by kernel_rfl) (fun _ _ _ h => h) (Or.inl ⟨by rfl, ?hy10n47⟩) (by assumption) ?rest10n47
        case hy10n47 =>
          intro w' hSw
          go_simp
          try with_reducible rfl
        try simp only [Act.put, List.getElem_toArray, List.getElem_cons_succ, List.getElem_cons_zero, List.setIfInBounds_toArray, List.set_cons_zero, List.set_cons_succ]
        refine wpAnyH_take (i := 11) (oi := _) (v := ?v11n48) rfl (by kernel_rfl) (by kernel_rfl) (by kernel_rfl) (fun _ _ _ h => h) (Or.inl ⟨by rfl, ?hy11n48⟩) (by assumption) ?rest11n48
        case hy11n48 =>
          intro w' hSw
          go_simp
          try with_reducible rfl
        try simp only [Act.put, List.getElem_toArray, List.getElem_cons_succ, List.getElem_cons_zero, List.setIfInBounds_toArray, List.set_cons_zero, List.set_cons_succ]
        refine wpAnyH_take (i := 12) (oi := _) (v := ?v12n49) rfl (by kernel_rfl) (by kernel_rfl) (by kernel_rfl) (fun _ _ _ h => h) (Or.inl ⟨by rfl, ?hy12n49⟩) (by assumption) ?rest12n49
        case hy12n49 =>
          intro w' hSw
          go_simp
          try with_reducible rfl
        try simp only [Act.put, List.getElem_toArray, List.getElem_cons_succ, List.getElem_cons_zero, List.setIfInBounds_toArray, List.set_cons_zero, List.set_cons_succ]
        refine' wpAnyH_take (i := 13) (oi := _) (v := _) rfl (by kernel_rfl) (by kernel_rfl) (by kernel_rfl) (fun _ _ _ h => h) (yieldsIf_load_mid (by rfl) _ _ rfl _ _ rfl _ _ ?hS13n50 Tryd.underlying28 rfl (info_d HOX.out.2)) (by assumption) ?rest13n50
        case hS13n50 =>
          intro w' hSw
          exact rng_n (hSw.la.at HX.out).2 HOX.out
        try simp only [Act.put, List.getElem_toArray, List.getElem_cons_succ, List.getElem_cons_zero, List.setIfInBounds_toArray, List.set_cons_zero, List.set_cons_succ]
        refine wpAnyH_ready (rs := [14]) (by kernel_rfl) (by simp) (AllReadyH.cons (o := _) rfl (fun K hK => ?_) AllReadyH.nil)
        go_simp
        with_reducible refine (kept_any x.p x.n _ HDN.out).mono ?_
        rintro e w3 ⟨rfl, hb3⟩
        go_wp2_with fail
        refine hK.out _ _ (HC2d.out.keep (Keep3.of_below hb3 hB2 hba2 hbb2)) (fun hHeld => ?_)
        clear hK K
        try simp only [Act.put, List.getElem_toArray, List.getElem_cons_succ, List.getElem_cons_zero, List.setIfInBounds_toArray, List.set_cons_zero, List.set_cons_succ]
        have HT3 := Lib.hid (HT2d.out.next hb3)
        clear hb3
        refine wpAnyH_ready (rs := [15]) (by kernel_rfl) (by simp) (AllReadyH.cons (o := _) rfl (fun K hK => ?_) AllReadyH.nil)
        rw [if_pos (by rfl)]
        refine wp_store_row 81 _ _ rfl (wr.heap.size) _ rfl rfl 81 Tryd.zeroCells81 HT3.out.x HI1.out ((rfl : (Tryd.zeroCells81).size = 65).trans HI1s.out) (cgA_one x) ?_
        have HT4 := Lib.hid (HT3.out.setx (cgL x).toArray)
        generalize World.setRow _ _ _ = w4 at HT4 ⊢
        have HS4 := Lib.hid (HC.out.keep (Keep3.of_below HT4.out.b hB' hba' hbb'))
        refine hK.out _ _ HS4.out (fun hHeld => ?_)
        clear hK K
        try simp only [Act.put, List.getElem_toArray, List.getElem_cons_succ, List.getElem_cons_zero, List.setIfInBounds_toArray, List.set_cons_zero, List.set_cons_succ]
        refine wpAnyH_ready (rs := [16]) (by kernel_rfl) (by simp) (AllReadyH.cons (o := _) rfl (fun K hK => ?_) AllReadyH.nil)
        rw [if_pos (by rfl)]
        refine wp_store_row 81 _ _ rfl (wr.heap.size + 1) _ rfl rfl 81 Tryd.zeroCells81 HT4.out.y HI2.out ((rfl : (Tryd.zeroCells81).size = 65).trans HI2s.out) (cgA_one (kp x.p x.n)) ?_
        have HT5 := Lib.hid (HT4.out.sety (cgL (kp x.p x.n)).toArray)
        generalize World.setRow _ _ _ = w5 at HT5 ⊢
        clear HS4
        have HS4 := Lib.hid (HC.out.keep (Keep3.of_below HT5.out.b hB' hba' hbb'))
        refine hK.out _ _ HS4.out (fun hHeld => ?_)
        clear hK K
        try simp only [Act.put, List.getElem_toArray, List.getElem_cons_succ, List.getElem_cons_zero, List.setIfInBounds_toArray, List.set_cons_zero, List.set_cons_succ]
        refine wpAnyH_done (by kernel_rfl) ?_ _
        have HQ := Lib.hid (sbs_go HS.out (sbs_A HX.out (.inl HDR.out)) HOK.out)
        obtain ⟨fn, tmps, assign, body, hy, hR⟩ := HY.out pre ⟨(x, kp x.p x.n), HOK.out⟩ w5 (HJ.out pre wr w5 HJr.out HT5.out.b) (by rw [HQ.out, List.map_append, List.length_append, List.length_append]; simp; omega)
        simp only [encP] at hy
        gi_wp2_with (first
          | (refine wpListIn_load_rowS rfl 81 _ rfl (wr.heap.size + 1) rfl _ _ _ _ HT5.out.y Tryd.underlying81 rfl HI2.out ?_)
          | (refine wpListIn_load_rowS rfl 81 _ rfl wr.heap.size rfl _ _ _ _ HT5.out.x Tryd.underlying81 rfl HI1.out ?_))
        refine hR.mono ?_
        have hz5 := HT5.out.size
        clear hR hy
        rintro e W6 (⟨rfl, hJ6, hk6⟩ | ⟨rfl, hJx6⟩)
        · have HJ6 := Lib.hid hJ6
          have HC6 := Lib.hid (HS4.out.keep hk6)
          have hz6 := hk6.1
          clear hJ6 hk6
          gi_wp2
          go_roundw
          case rel => exact ⟨i + 1, j, pre ++ [⟨(x, kp x.p x.n), HOK.out⟩], by omega, by omega, by first | rfl | go_num, by first | rfl | go_num, HQ, HJ6, HC6, by omega⟩
          case measure => simp [intOf]; omega
        · have HJx6 := Lib.hid hJx6
          clear hJx6
          gi_wp2
          refine bodyPost_ret (results_none rfl _ _ _) rfl ?_
          exact ⟨⟨_, rfl⟩, .inr ⟨pre ++ [⟨(x, kp x.p x.n), HOK.out⟩], ⟨_, HQ.out.symm⟩, HJx6.out⟩⟩
    · obtain rfl : i = na := by omega
      have HDR : Hid (a.drop i = []) := List.drop_eq_nil_of_le (by have := HC.out.la.len; omega)
      have hd1 : decide ((i : Int) < (i : Int)) = false := by simp
      by_cases hjb : j < nb
      · have hd2 : decide ((j : Int) < (nb : Int)) = true := by simp; omega
        have hd3 : ((j : Int) == (nb : Int)) = false := by simp; omega
        have hd4 : ((i : Int) == (i : Int)) = true := by simp
        have p4 : (j : Int) < (nb : Int) := by omega
        obtain ⟨g2, o2, rfl, -, -, -⟩ := HC.out.lb.cells (by omega)
        obtain ⟨y, hy⟩ : ∃ y, b[j]? = some y := ⟨b[j]'(by have := HC.out.lb.len; omega), List.getElem?_eq_getElem _⟩
        have HOY := Lib.hid (HC.out.lb.ok y (List.mem_of_getElem? hy))
        have HYy := Lib.hid hy; clear hy
        have HDO := Lib.hid HOY.out.1
        gi_wp2_with fail
        generalize hw1 : World.alloc (World.alloc wr _) _ = w1
        have HT1 : Hid (TwoB wr w1 Tryd.zeroCells81 Tryd.zeroCells81) := by show TwoB _ _ _ _; rw [← hw1]; exact TwoB.new _ _ _
        have HC1 := Lib.hid (HC.out.keep (Keep3.of_below HT1.out.b hB' hba' hbb'))
        clear hw1 hpa hpb
        have hpa := HC1.out.pa
        have hpb := HC1.out.pb
        have HOK : Hid (OkC (kp y.p y.o) ∧ OkC y) := ⟨⟨HOY.out.1, HOY.out.1⟩, HOY.out⟩
        have HI1 : Hid ((Tryd.prog.info? 81).map (·.size) = some (cgL (kp y.p y.o)).toArray.size) := by show _ = _; rw [List.size_toArray]; exact info_c HOK.out.1
        have HI1s : Hid (65 = (cgL (kp y.p y.o)).toArray.size) := by show _ = _; rw [List.size_toArray]; exact (cgL_length HOK.out.1).symm
        have HI2 : Hid ((Tryd.prog.info? 81).map (·.size) = some (cgL y).toArray.size) := by show _ = _; rw [List.size_toArray]; exact info_c HOK.out.2
        have HI2s : Hid (65 = (cgL y).toArray.size) := by show _ = _; rw [List.size_toArray]; exact (cgL_length HOK.out.2).symm
        refine wpIn_wide.2 ?_
        go_quiet (fail)
        have hbq : Below w1.heap.size w1 (w1.drewN nq) := ⟨rfl, rfl, rfl, Nat.le_refl _, fun _ _ => rfl⟩
        have HT2 := Lib.hid (HT1.out.next hbq)
        clear hbq
        generalize World.drewN w1 nq = w2 at HT2 ⊢
        clear HT1 HC1 hpa hpb
        clear w1
        rename World => w1
        have HT1 := HT2
        clear HT2
        have HC1 := Lib.hid (HC.out.keep (Keep3.of_below HT1.out.b hB' hba' hbb'))
        have hpa := HC1.out.pa
        have hpb := HC1.out.pb
        gi_wp2_with fail
        refine wpIn_wide.2 ?_
        go_quiet (fail)
        have hbq : Below w1.heap.size w1 (w1.drewN nq) := ⟨rfl, rfl, rfl, Nat.le_refl _, fun _ _ => rfl⟩
        have HT2 := Lib.hid (HT1.out.next hbq)
        clear hbq
        generalize World.drewN w1 nq = w2 at HT2 ⊢
        have HC2 := Lib.hid (HC.out.keep (Keep3.of_below HT2.out.b hB' hba' hbb'))
        have HT2d := Lib.hid (HT2.out.next ((Below.refl w2.heap.size w2).drew))
        have HC2d := Lib.hid (HC.out.keep (Keep3.of_below HT2d.out.b hB' hba' hbb'))
        have hz2 := HT2.out.size
        have hB2 : B ≤ w2.drew.heap.size := by show B ≤ w2.heap.size; omega
        have hba2 : ba < w2.drew.heap.size := by show ba < w2.heap.size; omega
        have hbb2 : bb < w2.drew.heap.size := by show bb < w2.heap.size; omega
        gi_wp2_with fail
        refine wpIn_wide.2 ?_
        refine wp_region_held_drew (S := fun w' => SbIn w' B ba bb spa i ca a (some ⟨g2, o2, none⟩) nb cb b) (by kernel_rfl) HC2d.out (fun hHeld => ?_)
        refine wpAnyH_take (i := 0) (oi := _) (v := ?v0n51) rfl (by kernel_rfl) (by kernel_rfl) (by kernel_rfl) (fun _ _ _ h => h) (Or.inl ⟨by rfl, ?hy0n51⟩) (by assumption) ?rest0n51
        case hy0n51 =>
          intro w' hSw
          have h1 := hSw.pb
          go_simp
          try with_reducible rfl
        try simp only [Act.put, List.getElem_toArray, List.getElem_cons_succ, List.getElem_cons_zero, List.setIfInBounds_toArray, List.set_cons_zero, List.set_cons_succ]
        refine wpAnyH_take (i := 1) (oi := _) (v := ?v1n52) rfl (by kernel_rfl) (by kernel_rfl) (by kernel_rfl) (fun _ _ _ h => h) (Or.inl ⟨by rfl, ?hy1n52⟩) (by assumption) ?rest1n52
        case hy1n52 =>
          intro w' hSw
          go_simp
          try with_reducible rfl
        try simp only [Act.put, List.getElem_toArray, List.getElem_cons_succ, List.getElem_cons_zero, List.setIfInBounds_toArray, List.set_cons_zero, List.set_cons_succ]
        refine wpAnyH_take (i := 2) (oi := _) (v := ?v2n53) rfl (by kernel_rfl) (by kernel_rfl) (by kernel_rfl) (fun _ _ _ h => h) (Or.inl ⟨by rfl, ?hy2n53⟩) (by assumption) ?rest2n53
        case hy2n53 =>
          intro w' hSw
          go_simp
          try with_reducible rfl
        try simp only [Act.put, List.getElem_toArray, List.getElem_cons_succ, List.getElem_cons_zero, List.setIfInBounds_toArray, List.set_cons_zero, List.set_cons_succ]
        refine wpAnyH_take (i := 3) (oi := _) (v := ?v3n54) rfl (by kernel_rfl) (by kernel_rfl) (by kernel_rfl) (fun _ _ _ h => h) (Or.inl ⟨by rfl, ?hy3n54⟩) (by assumption) ?rest3n54
        case hy3n54 =>
          intro w' hSw
          go_simp
          try with_reducible rfl
        try simp only [Act.put, List.getElem_toArray, List.getElem_cons_succ, List.getElem_cons_zero, List.setIfInBounds_toArray, List.set_cons_zero, List.set_cons_succ]
        refine wpAnyH_take (i := 4) (oi := _) (v := ?v4n55) rfl (by kernel_rfl) (by kernel_rfl) (by kernel_rfl) (fun _ _ _ h => h) (Or.inl ⟨by rfl, ?hy4n55⟩) (by assumption) ?rest4n55
        case hy4n55 =>
          intro w' hSw
          have h1 := rng_p (hSw.lb.at HYy.out).2
          go_simp
          try with_reducible rfl
        try simp only [Act.put, List.getElem_toArray, List.getElem_cons_succ, List.getElem_cons_zero, List.setIfInBounds_toArray, List.set_cons_zero, List.set_cons_succ]
        refine wpAnyH_take (i := 5) (oi := _) (v := ?v5n56) rfl (by kernel_rfl) (by kernel_rfl) (by kernel_rfl) (fun _ _ _ h => h) (Or.inl ⟨by rfl, ?hy5n56⟩) (by assumption) ?rest5n56
        case hy5n56 =>
          intro w' hSw
          have h1 := hSw.pb
          go_simp
          try with_reducible rfl
        try simp only [Act.put, List.getElem_toArray, List.getElem_cons_succ, List.getElem_cons_zero, List.setIfInBounds_toArray, List.set_cons_zero, List.set_cons_succ]
        refine wpAnyH_take (i := 6) (oi := _) (v := ?v6n57) rfl (by kernel_rfl) (by kernel_rfl) (by kernel_rfl) (fun _ _ _ h => h) (Or.inl ⟨by rfl, ?hy6n57⟩) (by assumption) ?rest6n57
        case hy6n57 =>
          intro w' hSw
          go_simp
          try with_reducible rfl
        try simp only [Act.put, List.getElem_toArray, List.getElem_cons_succ, List.getElem_cons_zero, List.setIfInBounds_toArray, List.set_cons_zero, List.set_cons_succ]
        refine wpAnyH_take (i := 7) (oi := _) (v := ?v7n58) rfl (by kernel_rfl) (by kernel_rfl) (by kernel_rfl) (fun _ _ _ h => h) (Or.inl ⟨by rfl, ?hy7n58⟩) (by assumption) ?rest7n58
        case hy7n58 =>
          intro w' hSw
          go_simp
          try with_reducible rfl
        try simp only [Act.put, List.getElem_toArray, List.getElem_cons_succ, List.getElem_cons_zero, List.setIfInBounds_toArray, List.set_cons_zero, List.set_cons_succ]
        refine wpAnyH_take (i := 8) (oi := _) (v := ?v8n59) rfl (by kernel_rfl) (by kernel_rfl) (by kernel_rfl) (fun _ _ _ h => h) (Or.inl ⟨by rfl, ?hy8n59⟩) (by assumption) ?rest8n59
        case hy8n59 =>
          intro w' hSw
          go_simp
          try with_reducible rfl
        try simp only [Act.put, List.getElem_toArray, List.getElem_cons_succ, List.getElem_cons_zero, List.setIfInBounds_toArray, List.set_cons_zero, List.set_cons_succ]
        refine' wpAnyH_take (i := 9) (oi := _) (v := _) rfl (by kernel_rfl) (by kernel_rfl) (by kernel_rfl) (fun _ _ _ h => h) (yieldsIf_load_mid (by rfl) _ _ rfl _ _ rfl _ _ ?hS9n60 Tryd.underlying28 rfl (info_d HOY.out.1)) (by assumption) ?rest9n60
        case hS9n60 =>
          intro w' hSw
          exact rng_o (hSw.lb.at HYy.out).2
        try simp only [Act.put, List.getElem_toArray, List.getElem_cons_succ, List.getElem_cons_zero, List.setIfInBounds_toArray, List.set_cons_zero, List.set_cons_succ]
        refine wpAnyH_take (i := 11) (oi := _) (v := ?v11n61) rfl (by kernel_rfl) (by kernel_rfl) (by kernel_rfl) (fun _ _ _ h => h) (Or.inl ⟨by rfl, ?hy11n61⟩) (by assumption) ?rest11n61
        case hy11n61 =>
          intro w' hSw
          have h1 := hSw.pb
          go_simp
          try with_reducible rfl
        try simp only [Act.put, List.getElem_toArray, List.getElem_cons_succ, List.getElem_cons_zero, List.setIfInBounds_toArray, List.set_cons_zero, List.set_cons_succ]
        refine wpAnyH_take (i := 12) (oi := _) (v := ?v12n62) rfl (by kernel_rfl) (by kernel_rfl) (by kernel_rfl) (fun _ _ _ h => h) (Or.inl ⟨by rfl, ?hy12n62⟩) (by assumption) ?rest12n62
        case hy12n62 =>
          intro w' hSw
          go_simp
          try with_reducible rfl
        try simp only [Act.put, List.getElem_toArray, List.getElem_cons_succ, List.getElem_cons_zero, List.setIfInBounds_toArray, List.set_cons_zero, List.set_cons_succ]
        refine wpAnyH_take (i := 13) (oi := _) (v := ?v13n63) rfl (by kernel_rfl) (by kernel_rfl) (by kernel_rfl) (fun _ _ _ h => h) (Or.inl ⟨by rfl, ?hy13n63⟩) (by assumption) ?rest13n63
        case hy13n63 =>
          intro w' hSw
          go_simp
          try with_reducible rfl
        try simp only [Act.put, List.getElem_toArray, List.getElem_cons_succ, List.getElem_cons_zero, List.setIfInBounds_toArray, List.set_cons_zero, List.set_cons_succ]
        refine' wpAnyH_take (i := 14) (oi := _) (v := _) rfl (by kernel_rfl) (by kernel_rfl) (by kernel_rfl) (fun _ _ _ h => h) (yieldsIf_load_mid (by rfl) _ _ rfl _ _ rfl _ _ ?hS14n64 Tryd.underlying81 rfl (info_c HOY.out)) (by assumption) ?rest14n64
        case hS14n64 =>
          intro w' hSw
          exact (hSw.lb.at HYy.out).2
        try simp only [Act.put, List.getElem_toArray, List.getElem_cons_succ, List.getElem_cons_zero, List.setIfInBounds_toArray, List.set_cons_zero, List.set_cons_succ]
        refine wpAnyH_ready (rs := [10]) (by kernel_rfl) (by simp) (AllReadyH.cons (o := _) rfl (fun K hK => ?_) AllReadyH.nil)
        go_simp
        with_reducible refine (kept_any y.p y.o _ HDO.out).mono ?_
        rintro e w3 ⟨rfl, hb3⟩
        go_wp2_with fail
        refine hK.out _ _ (HC2d.out.keep (Keep3.of_below hb3 hB2 hba2 hbb2)) (fun hHeld => ?_)
        clear hK K
        try simp only [Act.put, List.getElem_toArray, List.getElem_cons_succ, List.getElem_cons_zero, List.setIfInBounds_toArray, List.set_cons_zero, List.set_cons_succ]
        have HT3 := Lib.hid (HT2d.out.next hb3)
        clear hb3
        refine wpAnyH_ready (rs := [15]) (by kernel_rfl) (by simp) (AllReadyH.cons (o := _) rfl (fun K hK => ?_) AllReadyH.nil)
        rw [if_pos (by rfl)]
        refine wp_store_row 81 _ _ rfl (wr.heap.size) _ rfl rfl 81 Tryd.zeroCells81 HT3.out.x HI1.out ((rfl : (Tryd.zeroCells81).size = 65).trans HI1s.out) (cgA_one (kp y.p y.o)) ?_
        have HT4 := Lib.hid (HT3.out.setx (cgL (kp y.p y.o)).toArray)
        generalize World.setRow _ _ _ = w4 at HT4 ⊢
        have HS4 := Lib.hid (HC.out.keep (Keep3.of_below HT4.out.b hB' hba' hbb'))
        refine hK.out _ _ HS4.out (fun hHeld => ?_)
        clear hK K
        try simp only [Act.put, List.getElem_toArray, List.getElem_cons_succ, List.getElem_cons_zero, List.setIfInBounds_toArray, List.set_cons_zero, List.set_cons_succ]
        refine wpAnyH_ready (rs := [16]) (by kernel_rfl) (by simp) (AllReadyH.cons (o := _) rfl (fun K hK => ?_) AllReadyH.nil)
        rw [if_pos (by rfl)]
        refine wp_store_row 81 _ _ rfl (wr.heap.size + 1) _ rfl rfl 81 Tryd.zeroCells81 HT4.out.y HI2.out ((rfl : (Tryd.zeroCells81).size = 65).trans HI2s.out) (cgA_one y) ?_
        have HT5 := Lib.hid (HT4.out.sety (cgL y).toArray)
        generalize World.setRow _ _ _ = w5 at HT5 ⊢
        clear HS4
        have HS4 := Lib.hid (HC.out.keep (Keep3.of_below HT5.out.b hB' hba' hbb'))
        refine hK.out _ _ HS4.out (fun hHeld => ?_)
        clear hK K
        try simp only [Act.put, List.getElem_toArray, List.getElem_cons_succ, List.getElem_cons_zero, List.setIfInBounds_toArray, List.set_cons_zero, List.set_cons_succ]
        refine wpAnyH_done (by kernel_rfl) ?_ _
        have HQ := Lib.hid (sbs_go HS.out (sbs_B HYy.out (.inl HDR.out)) HOK.out)
        obtain ⟨fn, tmps, assign, body, hy, hR⟩ := HY.out pre ⟨(kp y.p y.o, y), HOK.out⟩ w5 (HJ.out pre wr w5 HJr.out HT5.out.b) (by rw [HQ.out, List.map_append, List.length_append, List.length_append]; simp; omega)
        simp only [encP] at hy
        gi_wp2_with (first
          | (refine wpListIn_load_rowS rfl 81 _ rfl (wr.heap.size + 1) rfl _ _ _ _ HT5.out.y Tryd.underlying81 rfl HI2.out ?_)
          | (refine wpListIn_load_rowS rfl 81 _ rfl wr.heap.size rfl _ _ _ _ HT5.out.x Tryd.underlying81 rfl HI1.out ?_))
        refine hR.mono ?_
        have hz5 := HT5.out.size
        clear hR hy
        rintro e W6 (⟨rfl, hJ6, hk6⟩ | ⟨rfl, hJx6⟩)
        · have HJ6 := Lib.hid hJ6
          have HC6 := Lib.hid (HS4.out.keep hk6)
          have hz6 := hk6.1
          clear hJ6 hk6
          gi_wp2
          go_roundw
          case rel => exact ⟨i, j + 1, pre ++ [⟨(kp y.p y.o, y), HOK.out⟩], by omega, by omega, by first | rfl | go_num, by first | rfl | go_num, HQ, HJ6, HC6, by omega⟩
          case measure => simp [intOf]; omega
        · have HJx6 := Lib.hid hJx6
          clear hJx6
          gi_wp2
          refine bodyPost_ret (results_none rfl _ _ _) rfl ?_
          exact ⟨⟨_, rfl⟩, .inr ⟨pre ++ [⟨(kp y.p y.o, y), HOK.out⟩], ⟨_, HQ.out.symm⟩, HJx6.out⟩⟩
      · obtain rfl : j = nb := by omega
        have hd2 : decide ((j : Int) < (j : Int)) = false := by simp
        have HE : Hid (pre.map (·.1) = sbs a b) := by
          show _ = _
          have hdb : b.drop j = [] := List.drop_eq_nil_of_le (by have := HC.out.lb.len; omega)
          rw [HS.out, HDR.out, hdb, sbs_nil]; simp
        gi_wp2_with fail
        go_end0
        exact ⟨⟨_, rfl⟩, .inl ⟨pre, HE.out, HJr.out⟩⟩
end Go.Proofs.YtkookkhlgllneaaDoor

namespace Go.Proofs.YtkookkhlgllneaaDoor
open Go.RowKit

section
variable {F : Fence} {n : Nat} {P : Program} {ops : Array Oper} {rest : List Oper} {o : Oper} {a : Act} {w : World} {Q : Exit → Act → World → Prop}
theorem wpListIn_load_midS (hgd : o.guard = none) (ty : TypeId) (x : Operand) (ho : o.op = .load ty x)
    (b k : Nat) (hx : a.eval x = .pointer (some ⟨b, k, none⟩)) (cs : List Value) (d : TypeDesc) (hc : w.rangeAt b k cs)
    (hu : P.underlying ty = some d) (hd : d.isRow = true) (hi : (P.info? ty).map (·.size) = some cs.length)
    (h : wpListIn F n P ops Q rest (a.put o.dst (.agg cs.toArray)) w) : wpListIn F n P ops Q (o :: rest) a w := by
  refine wpListIn_plain hgd fun K hK => ?_
  unfold Oper.wpIn
  refine ⟨?_, ?_⟩
  · simp [Oper.about, ho]
  · rw [Oper.semAt_plain F _ _ (by rw [ho]; intro c hc'; cases hc')]
    unfold execOp
    simp only [ho, hx, Instr.loadAt, Instr.sureAddr, Sem.run_bind, Sem.run_pure, Result.andThen_ok, run_loadVar_mid w b k ty cs d hc hu hd hi]
    exact hK _ _ h
theorem wpListIn_store_rowS (hgd : o.guard = none) (ty : TypeId) (x y : Operand) (ho : o.op = .store ty x y)
    (g : Nat) (cells : Array Value) (hx : a.eval x = .pointer (some ⟨g, 0, none⟩)) (hy : a.eval y = .agg cells)
    (t : TypeId) (old : Array Value) (hg : w.heap[g]? = some (.cells old t (0, 0))) (hi : (P.info? ty).map (·.size) = some cells.size)
    (hold : old.size = cells.size) (h1 : cells.all (·.oneCell') = true)
    (h : wpListIn F n P ops Q rest (a.put o.dst undef) (w.setRow g cells)) : wpListIn F n P ops Q (o :: rest) a w := by
  refine wpListIn_plain hgd fun K hK => ?_
  unfold Oper.wpIn
  refine ⟨?_, ?_⟩
  · simp [Oper.about, ho]
  · rw [Oper.semAt_plain F _ _ (by rw [ho]; intro c hc'; cases hc')]
    unfold execOp
    simp only [ho, hx, hy, Instr.storeAt, Instr.sureAddr, Sem.run_bind, Sem.run_pure, Result.andThen_ok, run_storeVar_row w g t ty old cells hg hi hold h1]
    exact hK _ _ h
theorem wpListIn_build_eqS (hgd : o.guard = none) (t : TypeId) (parts : List (Nat × Operand)) (ho : o.op = .build t parts.toArray)
    (vs : List (Nat × Value)) (hv : (parts.map fun (i, x) => (i, a.eval x)) = vs) (v : Value) (hrun : (Instr.build t vs.toArray).run P w = .ok v w) (h : wpListIn F n P ops Q rest (a.put o.dst v) w) : wpListIn F n P ops Q (o :: rest) a w := by
  refine wpListIn_plain hgd fun K hK => ?_
  unfold Oper.wpIn
  refine ⟨?_, ?_⟩
  · simp [Oper.about, ho]
  · rw [Oper.semAt_plain F _ _ (by rw [ho]; intro c hc'; cases hc')]
    unfold execOp
    simp only [ho, Sem.run_bind, List.map_toArray, hv, hrun, Result.andThen_ok]
    exact hK _ _ h
theorem wpListIn_slice_eqS (hgd : o.guard = none) (t : TypeId) (k : Nat) (parts : List (Nat × Operand)) (ho : o.op = .buildSlice t k parts.toArray)
    (vs : List (Nat × Value)) (hv : (parts.map fun (i, x) => (i, a.eval x)) = vs) (v : Value) (w' : World) (hrun : (Instr.buildSlice t k vs.toArray).run P w = .ok v w') (h : wpListIn F n P ops Q rest (a.put o.dst v) w') : wpListIn F n P ops Q (o :: rest) a w := by
  refine wpListIn_plain hgd fun K hK => ?_
  unfold Oper.wpIn
  refine ⟨?_, ?_⟩
  · simp [Oper.about, ho]
  · rw [Oper.semAt_plain F _ _ (by rw [ho]; intro c hc'; cases hc')]
    unfold execOp
    simp only [ho, Sem.run_bind, List.map_toArray, hv, hrun, Result.andThen_ok]
    exact hK _ _ h
theorem wpListIn_append_cgS (hgd : o.guard = none) (s x : Operand)
    (ho : o.op = .call { callee := .builtin .append, args := #[s, x], argTypes := #[40, 40] }) (base : Nat) (v : Value) (l : List Cg) (k : Nat) (hn : k = l.length) (hs : a.eval s = v) (hown : OwnC w base v l)
    (g : Nat) (y : Cg) (hx : a.eval x = .slice (some ⟨g, 0, none⟩) 1 1) (hy : CgB w g y) (hok : OkC y) (hlen : k ≤ 1000000) (hbase : base ≤ w.heap.size)
    (h : ∀ sp cap w', Hid (OwnC w' base (.slice (some ⟨sp, 0, none⟩) (k + 1) cap) (l ++ [y])) → Hid (Below base w w') → Hid (w.grownBy w' v.ownBlock) → wpListIn F n Tryd.prog ops Q rest (a.put o.dst (.slice (some ⟨sp, 0, none⟩) (k + 1) cap)) w') : wpListIn F n Tryd.prog ops Q (o :: rest) a w := by
  subst hn
  obtain ⟨i0, hi0, hz0, hz1, hz2⟩ := info_parts infoC3
  refine wpListIn_append_own w hgd s x _ ho base _ i0 _ 65 80 Tryd.underlying40 hi0 hz0 hz1 hz2 rfl (by decide) v l.length _ hs hown.1 ⟨g, 0, none⟩ 1 1 (cgL y) hx (by rw [cgL_length hok]) ?_ (cgL_one y) (by unfold maxLen; omega) (by omega) hbase ?_
  · intro j u hj
    rw [Addr.add_mid]
    exact hy.all j u hj
  · intro v' w' h1 h2 _
    obtain ⟨sp, cap, rfl⟩ := ownsRow_succ h1
    refine h sp cap w' ⟨by rw [rowsC_snoc, List.length_append]; exact h1, fun z hz => ?_⟩ ((Below.refl base w).grown h2 hbase (own_baseS hown.1)) h2
    rcases List.mem_append.1 hz with hz | hz
    · exact hown.2 z hz
    · rw [List.mem_singleton.1 hz]; exact hok
end

set_option maxHeartbeats 400000 in
theorem sideBySide_any (spa : Option Addr) (na ca : Nat) (spb : Option Addr) (nb cb : Nat) (w : World) :
    Calls Tryd.prog 104 #[.slice spa na ca, .slice spb nb cb] w fun e w' => e = .returned (.func (.func 139) #[] #[.pointer (some ⟨w.heap.size, 0, none⟩), .pointer (some ⟨w.heap.size + 1, 0, none⟩)]) ∧
      w' = (w.alloc (.cells #[.slice spa na ca] 40)).alloc (.cells #[.slice spb nb cb] 40) := by
  go_enter Tryd.func104, Tryd.ntmps104
  go_wp2
  go_ret
  exact ⟨rfl, rfl⟩
/-- the iterator's contract, as the law of the loop asks it -/
theorem sbs_stops (n : Nat) (hn : 1 ≤ n) (B ba bb : Nat) (spa : Option Addr) (na ca : Nat) (a : List Cg) (spb : Option Addr) (nb cb : Nat) (b : List Cg) (hna : na ≤ 1000000) (hnb : nb ≤ 1000000) (w : World)
    (hB : B ≤ w.heap.size) (hba : ba < w.heap.size) (hbb : bb < w.heap.size) (hc : SbIn w B ba bb spa na ca a spb nb cb b) :
    SeqStopsK Fence.wide n Tryd.prog 139 #[.pointer (some ⟨ba, 0, none⟩), .pointer (some ⟨bb, 0, none⟩)] encP (Keep3 B ba bb) (fun xs => xs.map (·.1) = sbs a b) (fun pre => pre.map (·.1) <+: sbs a b) (sbs a b).length w := by
  intro l J Jx W hW hJ hJx hY h0
  have hz := hW.size
  exact sbs_in n l B ba bb spa na ca a spb nb cb b hn hna hnb J Jx W (by omega) (by omega) (by omega)
    (fun pre X Y hj hb => hJ pre X Y none hj ⟨hb.os, hb.tape, hb.output, hb.size, fun k hk _ => hb.block k hk⟩ (fun r e => by cases e)) hY (hc.keep (Keep3.of_below hW hB hba hbb)) h0
end Go.Proofs.YtkookkhlgllneaaDoor

namespace Go.Proofs.YtkookkhlgllneaaDoor
open Go.RowKit Go.Shelf
attribute [local go_sem] Oper.semAt_some

/-- what the pairs leave -/
def outs (pre : List CP) : List Cg := (pre.map (·.1)).filterMap outP
theorem outs_ok (pre : List CP) : ∀ x ∈ outs pre, OkC x := by
  intro x hx
  obtain ⟨q, hq, e⟩ := List.mem_filterMap.1 hx
  obtain ⟨c, _, rfl⟩ := List.mem_map.1 hq
  unfold outP at e
  split at e
  · cases e
  · injection e with e; subst e; exact ⟨c.2.1.1, c.2.2.2⟩
theorem outs_length (pre : List CP) : (outs pre).length ≤ pre.length := by
  unfold outs; exact Nat.le_trans (List.length_filterMap_le _ _) (by simp)
theorem length_sbs : ∀ (a b : List Cg), (sbs a b).length ≤ a.length + b.length
  | [], b => by rw [sbs_nil]; simp
  | x :: a, [] => by rw [sbs_nil_right]; simp
  | x :: a, y :: b => by
    by_cases h1 : pls x.p y.p = true
    · rw [sbs_lt h1]; have := length_sbs a (y :: b); simp at this ⊢; omega
    · have h1 : pls x.p y.p = false := by simpa using h1
      by_cases h2 : pls y.p x.p = true
      · rw [sbs_gt h1 h2]; have := length_sbs (x :: a) b; simp at this ⊢; omega
      · have h2 : pls y.p x.p = false := by simpa using h2
        rw [sbs_eq h1 h2]; have := length_sbs a b; simp at this ⊢; omega
termination_by a b => a.length + b.length
/-- what follow leaves -/
def FolRes (w : World) (r : Option (List Cg)) (e : Ending) (w' : World) : Prop := match r with
  | none => e = .returned (.tuple #[.slice none 0 0, .bool false]) ∧ Below w.heap.size w w'
  | some l => ∃ sp cap, e = .returned (.tuple #[.slice sp l.length cap, .bool true]) ∧ OwnC w' w.heap.size (.slice sp l.length cap) l ∧ Below w.heap.size w w'
/-- the caller's cells between two rounds -/
structure FolIn (w : World) (pre : List CP) (W : World) : Prop where
  ok : (pre.map (·.1)).all okP = true
  row : ∃ v, Boxed W (w.heap.size + 1 + 1) 40 v ∧ W.ownsRow w.heap.size 81 65 v (outs pre).length (rowsC (outs pre)) ∧ True
  res : Boxed W w.heap.size 40 (.slice none 0 0)
  bool : Boxed W (w.heap.size + 1) 4 (.bool false)
  below : Below w.heap.size w W
  big : w.heap.size + 5 ≤ W.heap.size
  ra : ∃ u, Boxed W (w.heap.size + 1 + 1 + 1) 40 u
  rb : ∃ u, Boxed W (w.heap.size + 1 + 1 + 1 + 1) 40 u
structure FolOut (w : World) (c : Code) (pre : List CP) (W : World) : Prop where
  c : c = .ret
  no : (pre.map (·.1)).all okP = false
  res : Boxed W w.heap.size 40 (.slice none 0 0)
  bool : Boxed W (w.heap.size + 1) 4 (.bool false)
  below : Below w.heap.size w W
theorem folIn_own (w : World) (B : Nat) (hB : w.heap.size ≤ B) : OwnFrom B (FolIn w) := fun pre X Y row h hg hrow =>
  ⟨h.ok, (Own.from (holdsRow_own w.heap.size (w.heap.size + 1 + 1) 40 81 65 (fun pre : List CP => (outs pre).length) (fun pre => rowsC (outs pre)) (fun _ _ => True)) B) pre X Y row h.row hg hrow,
   (Own.from (boxed_own w.heap.size 40 (fun _ : List CP => .slice none 0 0)) B) pre X Y row h.res hg hrow, (Own.from (boxed_own (w.heap.size + 1) 4 (fun _ : List CP => .bool false)) B) pre X Y row h.bool hg hrow,
   ownFrom_below (Nat.le_refl _) hB pre X Y row h.below hg hrow, Nat.le_trans h.big hg.size,
   h.ra.elim fun u hu => ⟨u, (Own.from (boxed_own (w.heap.size + 1 + 1 + 1) 40 (fun _ : List CP => u)) B) pre X Y row hu hg hrow⟩,
   h.rb.elim fun u hu => ⟨u, (Own.from (boxed_own (w.heap.size + 1 + 1 + 1 + 1) 40 (fun _ : List CP => u)) B) pre X Y row hu hg hrow⟩⟩
theorem folOut_own (w : World) (B : Nat) (hB : w.heap.size ≤ B) (c : Code) : OwnFrom B (FolOut w c) := fun pre X Y row h hg hrow =>
  ⟨h.c, h.no, (Own.from (boxed_own w.heap.size 40 (fun _ : List CP => .slice none 0 0)) B) pre X Y row h.res hg hrow, (Own.from (boxed_own (w.heap.size + 1) 4 (fun _ : List CP => .bool false)) B) pre X Y row h.bool hg hrow,
   ownFrom_below (Nat.le_refl _) hB pre X Y row h.below hg hrow⟩
/-- where the two changes of a round lie -/
def PairAt (f : Nat → Nat → Array Value) (q : CP) (a' : Act) (W : World) : Prop := ∃ bx by', CgB W bx q.1.1 ∧ CgB W by' q.1.2 ∧ a' = { tmps := f bx by', defers := [] }
/-- the frame of a round -/
def folFr (w : World) (spa : Option Addr) (na ca : Nat) (spb : Option Addr) (nb cb : Nat) (q : CP) (bx by' : Nat) : Array Value := #[.slice spa na ca, .slice spb nb cb, undef, undef, .pointer (some ⟨w.heap.size, 0, none⟩), .pointer (some ⟨w.heap.size + 1, 0, none⟩), .pointer (some ⟨w.heap.size + 1 + 1, 0, none⟩), .pointer (some ⟨bx, 0, none⟩), .pointer (some ⟨by', 0, none⟩), undef, .slice spa na ca, .slice spb nb cb, .func (.func 139) #[] #[.pointer (some ⟨w.heap.size + 1 + 1 + 1, 0, none⟩), .pointer (some ⟨w.heap.size + 1 + 1 + 1 + 1, 0, none⟩)], .agg (cgL q.1.1).toArray, .agg (cgL q.1.2).toArray, undef, undef, undef, undef, undef, undef, undef, undef, undef, undef, undef, undef, undef, undef, undef, undef, undef, undef, undef, undef]
theorem pairAt_own (f : CP → Nat → Nat → Array Value) (B : Nat) (q : CP) (a' : Act) : OwnFrom B (fun (_ : Unit) W => PairAt (f q) q a' W) := by
  rintro s X Y row ⟨bx, by', hx, hy, e⟩ hg hrow
  have keep : ∀ k x, CgB X k x → CgB Y k x := fun k x h => (hg.block k (Array.getElem?_eq_some_iff.1 h).1 (fun e => by
    obtain ⟨_, o, ho, hc⟩ := hrow k e.symm
    rw [show X.heap[k]? = _ from h] at ho; cases ho; cases hc)).trans h
  exact ⟨bx, by', keep _ _ hx, keep _ _ hy, e⟩
theorem keep3_append {B ba bb b6 : Nat} {X Y : World} {row : Option Nat} {tmp : Obj} (hg : (X.alloc tmp).grownBy Y row) (hrow : ∀ k, row = some k → B ≤ k ∧ k ≠ ba ∧ k ≠ bb) (v : Value) (h1 : B ≤ b6) (h2 : b6 ≠ ba) (h3 : b6 ≠ bb) (h4 : B ≤ X.heap.size) (h5 : ba < X.heap.size) (h6 : bb < X.heap.size) :
    Keep3 B ba bb X (Y.setCell ⟨b6, 0, none⟩ v) := by
  have hs := hg.size
  rw [World.size_alloc] at hs
  have go : ∀ k, k < X.heap.size → k ≠ b6 → some k ≠ row → (Y.setCell ⟨b6, 0, none⟩ v).heap[k]? = X.heap[k]? := fun k hk hk6 hkr =>
    (Below.heap_setCell Y ⟨b6, 0, none⟩ v k hk6).trans ((hg.block k (by rw [World.size_alloc]; omega) hkr).trans (Below.heap_alloc X tmp k hk))
  refine ⟨by show _ ≤ (Y.heap.modify _ _).size; rw [Array.size_modify]; omega, fun k hk => go k (by omega) (by omega) (fun e => by have := (hrow k e.symm).1; omega), go ba h5 (Ne.symm h2) (fun e => (hrow ba e.symm).2.1 rfl), go bb h6 (Ne.symm h3) (fun e => (hrow bb e.symm).2.2 rfl)⟩
theorem setRow_new2 (w : World) (o : Obj) (old cells : Array Value) (t : TypeId) : ((w.alloc o).alloc (.cells old t)).setRow (w.heap.size + 1) cells = (w.alloc o).alloc (.cells cells t) := by
  have := setRow_new (w.alloc o) old cells t
  rwa [World.size_alloc] at this
theorem keep3_put {B ba bb : Nat} {w : World} (hB : B ≤ w.heap.size) (hba : ba < w.heap.size) (hbb : bb < w.heap.size) (W : World) (l : Nat) (o o' : Obj) (hl : w.heap.size ≤ l) (_ : W.heap[l]? = some o) (_ : o.isCells = false) (_ : o.isWalk = false) : Keep3 B ba bb W (W.putObj l o') :=
  ⟨by simp, fun k hk => World.putObj_heap_other (by omega), World.putObj_heap_other (by omega), World.putObj_heap_other (by omega)⟩

set_option maxRecDepth 100000 in
set_option maxHeartbeats 4000000 in
theorem follow_any (spa : Option Addr) (na ca : Nat) (a : List Cg) (spb : Option Addr) (nb cb : Nat) (b : List Cg) (w : World) (hna : na ≤ 400000) (hnb : nb ≤ 400000) (ha : CgsIn w w.heap.size spa na ca a) (hb : CgsIn w w.heap.size spb nb cb b) :
    Calls Tryd.prog 62 #[.slice spa na ca, .slice spb nb cb] w (FolRes w (fol a b)) := by
  have HA := Lib.hid ha; have HBb := Lib.hid hb
  clear ha hb
  refine (callsIn_wide (n := 8)).1 ?_
  refine callsIn_of_wp_marks Tryd.func62 rfl trivial ?_ rfl
  simp only [Tryd.ntmps62, List.size_toArray, List.length_cons, List.length_nil, Nat.reduceAdd, Nat.reduceSub, Array.replicate_succ, Array.replicate_zero, List.push_toArray, List.append_toArray, List.nil_append, List.cons_append]
  gi_wp2_with fail
  refine ⟨trivial, ?_⟩
  refine (callsIn_wide.2 (sideBySide_any spa na ca spb nb cb _)).mono ?_
  rintro e w1 ⟨rfl, hw1⟩
  have HW1 := Lib.hid hw1; clear hw1
  gi_wp2_with fail
  have hb1 : Below w.heap.size w w1 := by rw [HW1.out]; exact (((((Below.refl _ w).alloc (Nat.le_refl _) _).alloc (by simp) _).alloc (by simp <;> omega) _).alloc (by simp <;> omega) _).alloc (by simp <;> omega) _
  have hz1 : w1.heap.size = w.heap.size + 5 := by rw [HW1.out]; simp
  have r4 : Boxed w1 w.heap.size 40 (.slice none 0 0) := by
    show w1.heap[_]? = _; rw [HW1.out]
    exact (Below.heap_alloc _ _ _ (by simp <;> omega)).trans ((Below.heap_alloc _ _ _ (by simp <;> omega)).trans ((Below.heap_alloc _ _ _ (by simp <;> omega)).trans ((Below.heap_alloc _ _ _ (by simp)).trans (heap_alloc_new w _))))
  have nx : ∀ (u : World) (o : Obj) (k : Nat), u.heap.size = k → (u.alloc o).heap[k]? = some o := fun u o k e => by subst e; exact heap_alloc_new u o
  have r5 : Boxed w1 (w.heap.size + 1) 4 (.bool false) := by
    show w1.heap[_]? = _; rw [HW1.out]
    exact (Below.heap_alloc _ _ _ (by simp <;> omega)).trans ((Below.heap_alloc _ _ _ (by simp <;> omega)).trans ((Below.heap_alloc _ _ _ (by simp <;> omega)).trans (nx _ _ _ (by simp))))
  have r6 : Boxed w1 (w.heap.size + 1 + 1) 40 (.slice none 0 0) := by
    show w1.heap[_]? = _; rw [HW1.out]
    exact (Below.heap_alloc _ _ _ (by simp <;> omega)).trans ((Below.heap_alloc _ _ _ (by simp <;> omega)).trans (nx _ _ _ (by simp)))
  have r7 : Boxed w1 (w.heap.size + 1 + 1 + 1) 40 (.slice spa na ca) := by
    show w1.heap[_]? = _; rw [HW1.out]
    exact (Below.heap_alloc _ _ _ (by simp <;> omega)).trans (nx _ _ _ (by simp))
  have r8 : Boxed w1 (w.heap.size + 1 + 1 + 1 + 1) 40 (.slice spb nb cb) := by
    show w1.heap[_]? = _; rw [HW1.out]
    exact nx _ _ _ (by simp)
  clear nx HW1
  have HSB : Hid (SbIn w1 w.heap.size (w.heap.size + 1 + 1 + 1) (w.heap.size + 1 + 1 + 1 + 1) spa na ca a spb nb cb b) := ⟨r7.cell, r8.cell, HA.out.below hb1 (Nat.le_refl _), HBb.out.below hb1 (Nat.le_refl _)⟩
  have HIN : Hid (FolIn w [] w1) := ⟨rfl, ⟨_, r6, World.ownsRow_nil _ _ _ _, trivial⟩, r4, r5, hb1, by omega, ⟨_, r7⟩, ⟨_, r8⟩⟩
  have HN : Hid ((sbs a b).length ≤ na + nb) := by have := length_sbs a b; have h1 := HA.out.len; have h2 := HBb.out.len; show _ ≤ _; omega
  have hz1a : w.heap.size + 5 ≤ w1.heap.size := by omega
  have hz1b : w1.heap.size ≤ w.heap.size + 5 := by omega
  clear r4 r5 r6 r7 r8 hb1 hz1
  have hI := folIn_own w w1.heap.size (by omega)
  have hIx := folOut_own w w1.heap.size (by omega)
  have HIo := Lib.hid hI
  refine wpIn_rangeFunc_ownH (α := CP) rfl (by decide) (gf := 139) (lb := #[.pointer (some ⟨w.heap.size + 1 + 1 + 1, 0, none⟩), .pointer (some ⟨w.heap.size + 1 + 1 + 1 + 1, 0, none⟩)]) rfl trivial (enters_of Tryd.func139 (by kernel_rfl) rfl)
    (sbs_stops 7 (by decide) w.heap.size (w.heap.size + 1 + 1 + 1) (w.heap.size + 1 + 1 + 1 + 1) spa na ca a spb nb cb b (by omega) (by omega) w1 (by omega) (by omega) (by omega) HSB.out)
    Keep3.trans (keep3_put (by omega) (by omega) (by omega)) (Below.refl _ _) (fun _ => rfl) (FolIn w) (FolOut w) hI hIx HIN.out
    (fun q a' W => PairAt (folFr w spa na ca spb nb cb q) q a' W)
    (fun q a' => pairAt_own (folFr w spa na ca spb nb cb) w1.heap.size q a') ?assign ?body ?done ?stop
  clear hI hIx
  case assign =>
    intro l pre q W K hi hK
    have hbig := hi.big
    have HI1 : Hid ((Tryd.prog.info? 81).map (·.size) = some (cgL q.1.1).toArray.size) := by show _ = _; rw [List.size_toArray]; exact info_c q.2.1
    have HI1s : Hid (65 = (cgL q.1.1).toArray.size) := by show _ = _; rw [List.size_toArray]; exact (cgL_length q.2.1).symm
    have HI2 : Hid ((Tryd.prog.info? 81).map (·.size) = some (cgL q.1.2).toArray.size) := by show _ = _; rw [List.size_toArray]; exact info_c q.2.2
    have HI2s : Hid (65 = (cgL q.1.2).toArray.size) := by show _ = _; rw [List.size_toArray]; exact (cgL_length q.2.2).symm
    have HNX := Lib.hid (heap_alloc_new (W.alloc (.cells (cgL q.1.1).toArray 81)) (.cells Tryd.zeroCells81 81))
    have HFI := Lib.hid hi; have HK := Lib.hid hK
    clear hi hK
    simp only [encP, List.zip_toArray, List.zip_cons_cons, List.zip_nil_right, List.zip_nil_left, List.foldl_toArray, List.foldl_cons, List.foldl_nil, List.setIfInBounds_toArray, List.set_cons_succ, List.set_cons_zero]
    gi_wp2_with (first
      | (refine wpListIn_store_rowS rfl 81 _ _ rfl W.heap.size _ rfl rfl 81 Tryd.zeroCells81 (heap_alloc_new W _) HI1.out ((rfl : (Tryd.zeroCells81).size = 65).trans HI1s.out) (cgA_one _) ?_; rw [setRow_new])
      | (refine wpListIn_store_rowS rfl 81 _ _ rfl (W.heap.size + 1) _ rfl rfl 81 Tryd.zeroCells81 (by simpa using HNX.out) HI2.out ((rfl : (Tryd.zeroCells81).size = 65).trans HI2s.out) (cgA_one _) ?_; rw [setRow_new2]))
    have hbw : Below W.heap.size W ((W.alloc (.cells (cgL q.1.1).toArray 81)).alloc (.cells (cgL q.1.2).toArray 81)) := ((Below.refl _ W).alloc (Nat.le_refl _) _).alloc (by simp) _
    have hT := TwoB.new W (cgL q.1.1).toArray (cgL q.1.2).toArray
    exact HK.out _ _ (((KeepsOthers.alloc W _).trans (KeepsOthers.alloc _ _)).from _) (Keep3.of_below hbw (by omega) (by omega) (by omega)) (HIo.out.alloc _ (HIo.out.alloc _ HFI.out)) ⟨W.heap.size, W.heap.size + 1, hT.x, hT.y, rfl⟩
  case body =>
    rintro l pre q a' W hl ⟨r, hr⟩ hin ⟨bx, by', hx, hy, rfl⟩ hlen
    have hr' : ∃ r, W.heap[l]? = some (.loop r) := ⟨r, hr⟩
    have hbig := hin.big
    have HX := Lib.hid hx; have HY := Lib.hid hy; have HFI := Lib.hid hin
    have hsx : bx < W.heap.size := (Array.getElem?_eq_some_iff.1 hx).1
    have hsy : by' < W.heap.size := (Array.getElem?_eq_some_iff.1 hy).1
    have HDN := Lib.hid (info_d q.2.1.2); have HDO := Lib.hid (info_d q.2.1.1); have HEN := Lib.hid (info_d q.2.2.2); have HEO := Lib.hid (info_d q.2.2.1)
    have hxp := hx.p
    have he := neqD q.1.1.n q.1.2.o q.2.1.2.1 q.2.2.1.1
    have hc4 := hin.res.cell; have hf4 := hin.res.frozen; have hc5 := hin.bool.cell; have hf5 := hin.bool.frozen
    clear hx hy hr
    unfold folFr
    by_cases hok : q.1.1.n = q.1.2.o
    · rw [decide_eq_true hok] at he
      have HOK := Lib.hid hok
      have hzok : OkC (⟨q.1.1.p, q.1.1.o, q.1.2.n⟩ : Cg) := ⟨q.2.1.1, q.2.2.2⟩
      obtain ⟨z, hzz⟩ : ∃ z : Cg, z = ⟨q.1.1.p, q.1.1.o, q.1.2.n⟩ := ⟨_, rfl⟩
      have hzo : z.o = q.1.1.o := by rw [hzz]
      have hzn : z.n = q.1.2.n := by rw [hzz]
      rw [← hzz] at hzok
      have HZZ := Lib.hid hzz; have HZO := Lib.hid hzok
      have hbc : ∀ w', (Instr.build 81 [(0, .string q.1.1.p), (1, .agg (q.1.1.o.map (Value.int .u8)).toArray), (2, .agg (q.1.2.n.map (Value.int .u8)).toArray)].toArray).run Tryd.prog w' = .ok (.agg (cgL z).toArray) w' := by
        intro w'; rw [hzz]; exact buildC _ _ _ q.2.1.1.1 q.2.2.2.1 w'
      have HBC := Lib.hid hbc
      have HI1 : Hid ((Tryd.prog.info? 81).map (·.size) = some (cgL z).toArray.size) := by show _ = _; rw [List.size_toArray]; exact info_c hzok
      have HI1s : Hid (65 = (cgL z).toArray.size) := by show _ = _; rw [List.size_toArray]; exact (cgL_length hzok).symm
      obtain ⟨c, hcc⟩ : ∃ c, decide (z.o = z.n) = c := ⟨_, rfl⟩
      have hid : ∀ w', Calls Tryd.prog 105 #[.agg (cgL z).toArray] w' fun e w'' => e = .returned (.bool c) ∧ Below w'.heap.size w' w'' := fun w' => by rw [← hcc]; exact idle_any z w' hzok
      have HID := Lib.hid hid
      have HOUT : Hid (outs (pre ++ [q]) = if c = true then outs pre else outs pre ++ [z]) := by
        show _ = _
        unfold outs
        rw [List.map_append, List.filterMap_append]
        show _ ++ (List.filterMap outP [q.1]) = _
        have e1 : outP q.1 = if c = true then none else some z := by
          unfold outP
          rw [← hcc, hzz]
          by_cases hh : q.1.1.o = q.1.2.n
          · simp [hh]
          · simp [hh]
        cases c
        · rw [List.filterMap_cons, e1]; simp
        · rw [List.filterMap_cons, e1]; simp
      have HALL : Hid (((pre ++ [q]).map (·.1)).all okP = true) := by show _ = _; rw [List.map_append, List.all_append, hin.ok]; simp [okP, hok]
      clear hok hzz hzo hzn hzok hbc hid hcc hc4 hf4 hc5 hf5 hin
      gi_wp2_with (first
        | (refine wpListIn_load_midS rfl 28 _ rfl bx 33 rfl _ _ (HX.out.n q.2.1) Tryd.underlying28 rfl HDN.out ?_)
        | (refine wpListIn_load_midS rfl 28 _ rfl by' 1 rfl _ _ HY.out.o Tryd.underlying28 rfl HEO.out ?_)
        | (refine wpListIn_load_midS rfl 28 _ rfl bx 1 rfl _ _ HX.out.o Tryd.underlying28 rfl HDO.out ?_)
        | (refine wpListIn_load_midS rfl 28 _ rfl by' 33 rfl _ _ (HY.out.n q.2.2) Tryd.underlying28 rfl HEN.out ?_)
        | (refine wpListIn_build_eqS rfl 81 [(0, .tmp 21), (1, .tmp 23), (2, .tmp 25)] rfl [(0, .string q.1.1.p), (1, .agg (q.1.1.o.map (Value.int .u8)).toArray), (2, .agg (q.1.2.n.map (Value.int .u8)).toArray)] rfl _ (HBC.out _) ?_)
        | (refine wpListIn_store_rowS rfl 81 _ _ rfl W.heap.size _ rfl rfl 81 Tryd.zeroCells81 (heap_alloc_new W _) HI1.out ((rfl : (Tryd.zeroCells81).size = 65).trans HI1s.out) (cgA_one _) ?_; rw [setRow_new]; generalize hw2 : World.alloc W _ = W2; have hz2 : CgB W2 W.heap.size z := (by rw [← hw2]; exact heap_alloc_new _ _); have hb2 : Below W.heap.size W W2 := (by rw [← hw2]; exact (Below.refl _ _).alloc (Nat.le_refl _) _); have hs2 : W2.heap.size = W.heap.size + 1 := (by rw [← hw2]; simp); have hk2 : KeepsOthers W W2 := (by rw [← hw2]; exact KeepsOthers.alloc _ _); have hi2 : FolIn w pre W2 := (by rw [← hw2]; exact HIo.out.alloc _ HFI.out); have HZ2 := Lib.hid hz2; have HB2 := Lib.hid hb2; have HS2 := Lib.hid hs2; have HK2 := Lib.hid hk2; have HI2 := Lib.hid hi2; clear hw2 hz2 hb2 hs2 hk2 hi2)
        | (refine wpListIn_load_rowS rfl 81 _ rfl W.heap.size rfl _ _ _ _ HZ2.out Tryd.underlying81 rfl HI1.out ?_))
      refine ⟨trivial, ?_⟩
      refine (CallsIn.inRound l (callsIn_wide.2 (HID.out _))).mono ?_
      rintro e W3 ⟨rfl, hb3⟩
      have hs3 := hb3.size
      have hs2 := HS2.out
      have hg3 : W2.grownBy W3 none := ⟨hb3.os, hb3.tape, hb3.output, hb3.size, fun k hk _ => hb3.block k hk⟩
      have hk3 : KeepsOthers W W3 := HK2.out.trans ⟨hb3.size, fun k o hk _ => (hb3.block k (Array.getElem?_eq_some_iff.1 hk).1).trans hk⟩
      have hb13 : Below W.heap.size W W3 := HB2.out.trans (hb3.mono (by omega))
      have hi3 : FolIn w pre W3 := HIo.out pre W2 W3 none HI2.out hg3 (fun r e => by cases e)
      have hz3 : CgB W3 W.heap.size z := HZ2.out.below hb3 (by omega)
      have HK3 := Lib.hid hk3; have HB13 := Lib.hid hb13; have HI3 := Lib.hid hi3; have HZ3 := Lib.hid hz3
      have hs3' : W.heap.size < W3.heap.size := by omega
      clear hg3 hk3 hb13 hi3 hz3 hb3 hs2 hs3
      cases c
      · obtain ⟨v, hv, hrow, -⟩ := HI3.out.row
        have HV := Lib.hid hv; have HROW := Lib.hid hrow
        have hc6 := hv.cell
        have hf6 := hv.frozen
        obtain ⟨k, hk⟩ : ∃ k, k = (outs pre).length := ⟨_, rfl⟩
        have hkl : k ≤ 1000000 := by have h1 := outs_length pre; have h2 := HN.out; omega
        have HKK := Lib.hid hk
        have hbase : w.heap.size ≤ W3.heap.size := by omega
        have HOW := Lib.hid (show OwnC W3 w.heap.size v (outs pre) from ⟨hrow, outs_ok pre⟩)
        clear hv hrow hk
        gi_wp2_with (first
          | (refine wpListIn_load_rowS rfl 81 _ rfl W.heap.size rfl _ _ _ _ HZ3.out Tryd.underlying81 rfl HI1.out ?_)
          | (refine wpListIn_slice_eqS rfl 40 1 [(0, .tmp 31)] rfl [(0, .agg (cgL z).toArray)] rfl _ _ (sliceC _ z HZO.out) ?_; have hz4 : CgB (W3.alloc (.cells (cgL z).toArray 81)) W3.heap.size z := (CgB.new W3 z); have ho4 : OwnC (W3.alloc (.cells (cgL z).toArray 81)) w.heap.size v (outs pre) := (HOW.out.below ((Below.refl _ _).alloc (Nat.le_refl _) _)); have HZ4 := Lib.hid hz4; have HO4 := Lib.hid ho4; clear hz4 ho4)
          | (refine wpListIn_append_cgS rfl (.tmp 30) (.tmp 32) rfl w.heap.size v (outs pre) k HKK.out rfl HO4.out W3.heap.size z rfl HZ4.out HZO.out hkl (by simp; omega) ?_; intro sp5 cap5 W5 HO5 HB5 HG5; have happ := HV.out.appended (by decide) HROW.out hbase (by omega : w.heap.size ≤ w.heap.size + 1 + 1) HO5.out.1 HG5.out; have hc7 := happ.1.cell; have hf7 := happ.1.frozen; have HAPP := Lib.hid happ; clear happ))
        have hrw : ∀ j, v.ownBlock = some j → w.heap.size ≤ j ∧ j ≠ w.heap.size + 1 + 1 + 1 ∧ j ≠ w.heap.size + 1 + 1 + 1 + 1 := by
          intro j hj
          obtain ⟨u1, hu1⟩ := HI3.out.ra
          obtain ⟨u2, hu2⟩ := HI3.out.rb
          exact ⟨own_baseS HROW.out j hj, fun e => (hu1.not_row (by decide) HROW.out) (by rw [hj, e]), fun e => (hu2.not_row (by decide) HROW.out) (by rw [hj, e])⟩
        have hk4 := keep3_append HG5.out hrw (.slice (some ⟨sp5, 0, none⟩) (k + 1) cap5) (by omega : w.heap.size ≤ w.heap.size + 1 + 1) (by omega) (by omega) hbase (by omega) (by omega)
        obtain ⟨_, hp2, hp3, hp4, hp5⟩ := HAPP.out
        have hb66 : ∀ (bx : Nat) (t : TypeId) (u : Value), bx ≠ w.heap.size + 1 + 1 → t ≠ 81 → Boxed W3 bx t u → Boxed (W5.setCell ⟨w.heap.size + 1 + 1, 0, none⟩ (.slice (some ⟨sp5, 0, none⟩) (k + 1) cap5)) bx t u := fun bx t u h1 h2 h =>
          ((h.alloc _).kept HG5.out (h.not_row h2 HROW.out)).other h1 _
        refine ⟨(HK3.out.trans hp4).from _, (Keep3.of_below HB13.out (by omega) (by omega) (by omega)).trans hk4, HALL.out, ⟨_, hp2, ?_, trivial⟩, hb66 _ _ _ (by omega) (by decide) HI3.out.res, hb66 _ _ _ (by omega) (by decide) HI3.out.bool, HI3.out.below.trans hp5, Nat.le_trans HI3.out.big hk4.1, HI3.out.ra.elim fun u hu => ⟨u, hb66 _ _ _ (by omega) (by decide) hu⟩, HI3.out.rb.elim fun u hu => ⟨u, hb66 _ _ _ (by omega) (by decide) hu⟩⟩
        rw [HOUT.out]
        have e1 : (if false = true then outs pre else outs pre ++ [z]) = outs pre ++ [z] := rfl
        rw [e1, List.length_append, ← HKK.out]
        have := hp3
        rw [List.length_append, ← HKK.out] at this
        exact this
      · gi_wp2_with fail
        refine ⟨HK3.out.from _, Keep3.of_below HB13.out (by omega) (by omega) (by omega), HALL.out, ?_, HI3.out.res, HI3.out.bool, HI3.out.below, HI3.out.big, HI3.out.ra, HI3.out.rb⟩
        rw [HOUT.out]
        exact HI3.out.row
    · rw [decide_eq_false hok] at he
      have HR : Hid (KeepsFrom w1.heap.size W ((W.setCell ⟨w.heap.size, 0, none⟩ (.slice none 0 0)).setCell ⟨w.heap.size + 1, 0, none⟩ (.bool false)) ∧ FolOut w .ret (pre ++ [q]) ((W.setCell ⟨w.heap.size, 0, none⟩ (.slice none 0 0)).setCell ⟨w.heap.size + 1, 0, none⟩ (.bool false))) :=
        ⟨((KeepsOthers.setCell _ _ _).trans (KeepsOthers.setCell _ _ _)).from _, rfl, by rw [List.map_append, List.all_append]; simp [okP, hok], (hin.res.set _).other (by omega) _, (hin.bool.other (by omega) _).set _, (hin.below.setCell (p := ⟨w.heap.size, 0, none⟩) (Nat.le_refl _) _).setCell (p := ⟨w.heap.size + 1, 0, none⟩) (Nat.le_succ _) _⟩
      clear hok hin
      gi_wp2_with (first
        | (refine wpListIn_load_midS rfl 28 _ rfl bx 33 rfl _ _ (HX.out.n q.2.1) Tryd.underlying28 rfl HDN.out ?_)
        | (refine wpListIn_load_midS rfl 28 _ rfl by' 1 rfl _ _ HY.out.o Tryd.underlying28 rfl HEO.out ?_))
      exact HR.out
  case done =>
    rintro D xs W hD hS hin hK
    have HF : Hid (fol a b = some (outs xs)) := by
      show _ = _
      unfold fol outs
      rw [← hS, hin.ok]; rfl
    obtain ⟨v, hv, hrow, -⟩ := hin.row
    obtain ⟨sp, cap, rfl⟩ := own_shapeS hrow
    have hc6 := hv.cell
    have hc4 := hin.res.cell; have hf4 := hin.res.frozen; have hc5 := hin.bool.cell; have hf5 := hin.bool.frozen
    have hn4 : some w.heap.size ≠ (Value.slice sp (outs xs).length cap).ownBlock := hin.res.not_row (by decide) hrow
    have hn5 : some (w.heap.size + 1) ≠ (Value.slice sp (outs xs).length cap).ownBlock := hin.bool.not_row (by decide) hrow
    have HROW := Lib.hid hrow; have HFI := Lib.hid hin
    have HN4 := Lib.hid hn4; have HN5 := Lib.hid hn5
    have HKs : Hid ((((W.setCell ⟨w.heap.size, 0, none⟩ (.slice sp (outs xs).length cap)).setCell ⟨w.heap.size + 1, 0, none⟩ (.bool true))).heap[D]? = some (.deferred (some []))) :=
      (Below.heap_setCell _ ⟨w.heap.size + 1, 0, none⟩ (.bool true) D (by show D ≠ w.heap.size + 1; omega)).trans ((Below.heap_setCell W ⟨w.heap.size, 0, none⟩ _ D (by show D ≠ w.heap.size; omega)).trans hK)
    clear hin hrow hS hK hn4 hn5
    gi_wp2_with fail
    have hb4 : Boxed ((W.setCell ⟨w.heap.size, 0, none⟩ (.slice sp (outs xs).length cap)).setCell ⟨w.heap.size + 1, 0, none⟩ (.bool true)) w.heap.size 40 (.slice sp (outs xs).length cap) := (HFI.out.res.set _).other (by omega) _
    have hb5 : Boxed ((W.setCell ⟨w.heap.size, 0, none⟩ (.slice sp (outs xs).length cap)).setCell ⟨w.heap.size + 1, 0, none⟩ (.bool true)) (w.heap.size + 1) 4 (.bool true) := (HFI.out.bool.other (by omega) _).set _
    have hro : ((W.setCell ⟨w.heap.size, 0, none⟩ (.slice sp (outs xs).length cap)).setCell ⟨w.heap.size + 1, 0, none⟩ (.bool true)).ownsRow w.heap.size 81 65 (.slice sp (outs xs).length cap) (outs xs).length (rowsC (outs xs)) :=
      (HROW.out.kept (grownBy_setCell' W w.heap.size _) (.inr (Ne.symm HN4.out))).kept (grownBy_setCell' _ (w.heap.size + 1) _) (.inr (Ne.symm HN5.out))
    have hbl : Below w.heap.size w ((W.setCell ⟨w.heap.size, 0, none⟩ (.slice sp (outs xs).length cap)).setCell ⟨w.heap.size + 1, 0, none⟩ (.bool true)) := (HFI.out.below.setCell (p := ⟨w.heap.size, 0, none⟩) (Nat.le_refl _) _).setCell (p := ⟨w.heap.size + 1, 0, none⟩) (Nat.le_succ _) _
    generalize hW5 : World.setCell (World.setCell W _ _) _ _ = W5 at hb4 hb5 hro hbl ⊢
    have hKs : W5.heap[D]? = some (.deferred (some [])) := by rw [← hW5]; exact HKs.out
    clear hW5
    have hq4 : (W5.putObj D (.deferred none)).cell? ⟨w.heap.size, 0, none⟩ = some (.slice sp (outs xs).length cap) := (World.cell?_of_block (a := ⟨w.heap.size, 0, none⟩) (World.putObj_heap_other (by show w.heap.size ≠ D; omega))).trans hb4.cell
    have hq5 : (W5.putObj D (.deferred none)).cell? ⟨w.heap.size + 1, 0, none⟩ = some (.bool true) := (World.cell?_of_block (a := ⟨w.heap.size + 1, 0, none⟩) (World.putObj_heap_other (by show w.heap.size + 1 ≠ D; omega))).trans hb5.cell
    refine ⟨by simp, .inl ⟨_, _, rfl, run_takeDeferred hKs, ?_⟩⟩
    refine ⟨.tuple #[.slice sp (outs xs).length cap, .bool true], ?_, ?_⟩
    · simp [results, Tryd.f62, go_sem, hq4, hq5]
    · rw [HF.out]
      exact ⟨sp, cap, rfl, ⟨ownsRow_putObj hro _ hKs rfl, outs_ok xs⟩, hbl.trans (belowK_b (w := w) (Nat.le_refl _) W5 D _ _ (by omega) hKs rfl rfl)⟩
  case stop =>
    rintro D c pre W hD hSp hout hK
    obtain rfl := hout.c
    have HF : Hid (fol a b = none) := by
      show _ = _
      unfold fol
      rw [if_neg]
      obtain ⟨r, hr⟩ := hSp
      rw [← hr, List.all_append, hout.no]; simp
    have hq4 : (W.putObj D (.deferred none)).cell? ⟨w.heap.size, 0, none⟩ = some (.slice none 0 0) := (World.cell?_of_block (a := ⟨w.heap.size, 0, none⟩) (World.putObj_heap_other (by show w.heap.size ≠ D; omega))).trans hout.res.cell
    have hq5 : (W.putObj D (.deferred none)).cell? ⟨w.heap.size + 1, 0, none⟩ = some (.bool false) := (World.cell?_of_block (a := ⟨w.heap.size + 1, 0, none⟩) (World.putObj_heap_other (by show w.heap.size + 1 ≠ D; omega))).trans hout.bool.cell
    have HBL := Lib.hid hout.below; have HKs := Lib.hid hK; have HQ4 := Lib.hid hq4; have HQ5 := Lib.hid hq5
    clear hout hK hSp hq4 hq5
    gi_wp2_with fail
    refine ⟨by simp, .inl ⟨_, _, rfl, run_takeDeferred HKs.out, ?_⟩⟩
    refine ⟨.tuple #[.slice none 0 0, .bool false], ?_, ?_⟩
    · have hq4 := HQ4.out
      have hq5 := HQ5.out
      simp [results, Tryd.f62, go_sem, hq4, hq5]
    · rw [HF.out]
      exact ⟨rfl, HBL.out.trans (belowK_b (w := w) (Nat.le_refl _) W D _ _ (by omega) HKs.out rfl rfl)⟩
end Go.Proofs.YtkookkhlgllneaaDoor

namespace Go.Proofs.YtkookkhlgllneaaDoor
open Go.RowKit

/-- what a call that makes changes, entries answers -/
def ResC (w : World) (r : Except Int (List Cg)) (e : Ending) (w' : World) : Prop := match r with
  | .error k => e = .returned (.tuple #[.slice none 0 0, .int .i64 k]) ∧ Below w.heap.size w w'
  | .ok l => ∃ sp cap, e = .returned (.tuple #[.slice sp l.length cap, .int .i64 0]) ∧ OwnC w' w.heap.size (.slice sp l.length cap) l ∧ Below w.heap.size w w'
def ResE (w : World) (r : Except Int (List En)) (e : Ending) (w' : World) : Prop := match r with
  | .error k => e = .returned (.tuple #[.slice none 0 0, .int .i64 k]) ∧ Below w.heap.size w w'
  | .ok l => ∃ sp cap, e = .returned (.tuple #[.slice sp l.length cap, .int .i64 0]) ∧ OwnE w' w.heap.size (.slice sp l.length cap) l ∧ Below w.heap.size w w'
def finC : Option (List Cg) → Except Int (List Cg)
  | none => .error 9
  | some l => if 128 < l.length then .error 3 else .ok l
def finA : Option (List Cg) → Except Int (List En)
  | none => .error 9
  | some m => if m.any needB then .error 9 else if 64 < m.length then .error 3 else .ok (m.map toE)
theorem finA_some (m : List Cg) : finA (some m) = if m.any needB then .error 9 else if 64 < m.length then .error 3 else .ok (m.map toE) := rfl
def sCompose (a b : List Cg) : Except Int (List Cg) := if vldC a && vldC b then finC (fol a b) else .error 1
def sInvert (l : List Cg) : Except Int (List Cg) := if vldC l then .ok (inv l) else .error 1
def sDiff (a b : List En) : Except Int (List Cg) := if vldE a && vldE b then .ok (cdif a b) else .error 1
def sApply (s : List En) (l : List Cg) : Except Int (List En) := if vldE s && vldC l then finA (fol (cre s) l) else .error 1
theorem resC_error {w w' : World} {r : Except Int (List Cg)} {k : Int} {e : Ending} (h : r = .error k) (he : e = .returned (.tuple #[.slice none 0 0, .int .i64 k])) (hb : Below w.heap.size w w') : ResC w r e w' := by subst h; exact ⟨he, hb⟩
theorem resC_ok {w w' : World} {r : Except Int (List Cg)} {l : List Cg} {e : Ending} {sp : Option Addr} {n cap : Nat} (h : r = .ok l) (hn : n = l.length) (he : e = .returned (.tuple #[.slice sp n cap, .int .i64 0])) (ho : OwnC w' w.heap.size (.slice sp n cap) l) (hb : Below w.heap.size w w') : ResC w r e w' := by subst h; subst hn; exact ⟨sp, cap, he, ho, hb⟩
theorem resE_error {w w' : World} {r : Except Int (List En)} {k : Int} {e : Ending} (h : r = .error k) (he : e = .returned (.tuple #[.slice none 0 0, .int .i64 k])) (hb : Below w.heap.size w w') : ResE w r e w' := by subst h; exact ⟨he, hb⟩
theorem resE_ok {w w' : World} {r : Except Int (List En)} {l : List En} {e : Ending} {sp : Option Addr} {n cap : Nat} (h : r = .ok l) (hn : n = l.length) (he : e = .returned (.tuple #[.slice sp n cap, .int .i64 0])) (ho : OwnE w' w.heap.size (.slice sp n cap) l) (hb : Below w.heap.size w w') : ResE w r e w' := by subst h; subst hn; exact ⟨sp, cap, he, ho, hb⟩
theorem OwnC.base {w : World} {b b' : Nat} {v : Value} {l : List Cg} (h : OwnC w b v l) (hb : b' ≤ b) : OwnC w b' v l := by
  refine ⟨?_, h.2⟩
  obtain ⟨hl, h1 | ⟨g, cap, cur, e, hbg, rest⟩⟩ := h.1
  · exact ⟨hl, .inl h1⟩
  · exact ⟨hl, .inr ⟨g, cap, cur, e, Nat.le_trans hb hbg, rest⟩⟩
theorem OwnE.base {w : World} {b b' : Nat} {v : Value} {l : List En} (h : OwnE w b v l) (hb : b' ≤ b) : OwnE w b' v l := by
  refine ⟨?_, h.2⟩
  obtain ⟨hl, h1 | ⟨g, cap, cur, e, hbg, rest⟩⟩ := h.1
  · exact ⟨hl, .inl h1⟩
  · exact ⟨hl, .inr ⟨g, cap, cur, e, Nat.le_trans hb hbg, rest⟩⟩
theorem CgsIn.up {w w' : World} {B : Nat} {sp : Option Addr} {n cap : Nat} {l : List Cg} (h : CgsIn w B sp n cap l) (hb : Below B w w') (hs : B ≤ w.heap.size) : CgsIn w' w'.heap.size sp n cap l :=
  (h.below hb (Nat.le_refl _)).below (Below.refl w'.heap.size w') (Nat.le_trans hs hb.size)
theorem EnsIn.up {w w' : World} {B : Nat} {sp : Option Addr} {n cap : Nat} {l : List En} (h : EnsIn w B sp n cap l) (hb : Below B w w') (hs : B ≤ w.heap.size) : EnsIn w' w'.heap.size sp n cap l :=
  (h.below hb (Nat.le_refl _)).below (Below.refl w'.heap.size w') (Nat.le_trans hs hb.size)

set_option maxHeartbeats 400000 in
theorem Invert_any (sp : Option Addr) (n cap : Nat) (l : List Cg) (w : World) (hl : CgsIn w w.heap.size sp n cap l) (hn : n ≤ 100000) :
    Calls Tryd.prog 24 #[.slice sp n cap] w (ResC w (sInvert l)) := by
  have HL := Lib.hid hl; clear hl
  obtain ⟨c, hc⟩ : ∃ c, vldC l = c := ⟨_, rfl⟩
  have hv := fun w' (h : CgsIn w' w'.heap.size sp n cap l) => validChanges_any sp n cap l w' h (by omega)
  rw [hc] at hv
  have HV := Lib.hid hv; have HC := Lib.hid hc; clear hv hc
  have HLEN := Lib.hid HL.out.len
  cases c
  · go_enter Tryd.func24, Tryd.ntmps24
    go_wp2_with fail
    refine (HV.out _ HL.out).mono ?_
    rintro e w1 ⟨rfl, hb1⟩
    have HB1 := Lib.hid hb1; clear hb1
    go_wp2_with fail
    go_ret2
    exact resC_error (by unfold sInvert; rw [HC.out]; rfl) rfl HB1.out
  · go_enter Tryd.func24, Tryd.ntmps24
    go_wp2_with fail
    refine (HV.out _ HL.out).mono ?_
    rintro e w1 ⟨rfl, hb1⟩
    have HB1 := Lib.hid hb1; clear hb1
    go_wp2_with fail
    refine (inverse_any sp n cap l _ (HL.out.up HB1.out (Nat.le_refl _)) (by omega)).mono ?_
    rintro e w2 ⟨sp2, cap2, rfl, ho2, hb2⟩
    have HO2 := Lib.hid ho2; have HB2 := Lib.hid hb2; clear ho2 hb2
    go_wp2_with fail
    go_ret2
    exact resC_ok (l := inv l) (by unfold sInvert; rw [HC.out]; rfl) (by rw [← HLEN.out]; simp [inv]) rfl (HO2.out.base HB1.out.size) (HB1.out.trans (HB2.out.mono HB1.out.size))

set_option maxHeartbeats 400000 in
theorem Compose_any (spa : Option Addr) (na ca : Nat) (a : List Cg) (spb : Option Addr) (nb cb : Nat) (b : List Cg) (w : World) (ha : CgsIn w w.heap.size spa na ca a) (hb : CgsIn w w.heap.size spb nb cb b) (hna : na ≤ 100000) (hnb : nb ≤ 100000) :
    Calls Tryd.prog 26 #[.slice spa na ca, .slice spb nb cb] w (ResC w (sCompose a b)) := by
  have HA := Lib.hid ha; have HBb := Lib.hid hb; clear ha hb
  obtain ⟨c1, hc1⟩ : ∃ c, vldC a = c := ⟨_, rfl⟩
  obtain ⟨c2, hc2⟩ : ∃ c, vldC b = c := ⟨_, rfl⟩
  have hv1 := fun w' (h : CgsIn w' w'.heap.size spa na ca a) => validChanges_any spa na ca a w' h (by omega)
  have hv2 := fun w' (h : CgsIn w' w'.heap.size spb nb cb b) => validChanges_any spb nb cb b w' h (by omega)
  rw [hc1] at hv1; rw [hc2] at hv2
  have HV1 := Lib.hid hv1; have HV2 := Lib.hid hv2; have HC1 := Lib.hid hc1; have HC2 := Lib.hid hc2
  clear hv1 hv2 hc1 hc2
  cases c1
  · go_enter Tryd.func26, Tryd.ntmps26
    go_wp2_with fail
    refine (HV1.out _ HA.out).mono ?_
    rintro e w1 ⟨rfl, hb1⟩
    have HB1 := Lib.hid hb1; clear hb1
    go_wp2_with fail
    go_ret2
    exact resC_error (by unfold sCompose; rw [HC1.out]; rfl) rfl HB1.out
  cases c2
  · go_enter Tryd.func26, Tryd.ntmps26
    go_wp2_with fail
    refine (HV1.out _ HA.out).mono ?_
    rintro e w1 ⟨rfl, hb1⟩
    have HB1 := Lib.hid hb1; clear hb1
    go_wp2_with fail
    refine (HV2.out _ (HBb.out.up HB1.out (Nat.le_refl _))).mono ?_
    rintro e w2 ⟨rfl, hb2⟩
    have HB2 := Lib.hid (HB1.out.trans (hb2.mono HB1.out.size)); clear hb2
    go_wp2_with fail
    go_ret2
    exact resC_error (by unfold sCompose; rw [HC1.out, HC2.out]; rfl) rfl HB2.out
  obtain ⟨r, hr⟩ : ∃ r, fol a b = r := ⟨_, rfl⟩
  have hf := fun w' (h1 : CgsIn w' w'.heap.size spa na ca a) (h2 : CgsIn w' w'.heap.size spb nb cb b) => follow_any spa na ca a spb nb cb b w' (by omega) (by omega) h1 h2
  rw [hr] at hf
  have HF := Lib.hid hf; have HR := Lib.hid hr; clear hf hr
  have HS : Hid (sCompose a b = finC r) := by show _ = _; unfold sCompose; rw [HC1.out, HC2.out, HR.out]; rfl
  go_enter Tryd.func26, Tryd.ntmps26
  go_wp2_with fail
  refine (HV1.out _ HA.out).mono ?_
  rintro e w1 ⟨rfl, hb1⟩
  have HB1 := Lib.hid hb1; clear hb1
  go_wp2_with fail
  refine (HV2.out _ (HBb.out.up HB1.out (Nat.le_refl _))).mono ?_
  rintro e w2 ⟨rfl, hb2⟩
  have HB2 := Lib.hid (HB1.out.trans (hb2.mono HB1.out.size)); clear hb2
  go_wp2_with fail
  refine (HF.out _ (HA.out.up HB2.out (Nat.le_refl _)) (HBb.out.up HB2.out (Nat.le_refl _))).mono ?_
  rintro e w3 hres
  cases r with
  | none =>
    obtain ⟨rfl, hb3⟩ := hres
    have HB3 := Lib.hid (HB2.out.trans (hb3.mono HB2.out.size)); clear hb3
    go_wp2_with fail
    go_ret2
    exact resC_error HS.out rfl HB3.out
  | some l =>
    obtain ⟨sp3, cap3, rfl, ho3, hb3⟩ := hres
    have HO3 := Lib.hid (ho3.base HB2.out.size)
    have HB3 := Lib.hid (HB2.out.trans (hb3.mono HB2.out.size)); clear hb3 ho3
    by_cases h128 : 128 < l.length
    · have hd : decide ((l.length : Int) > 128) = true := by simp; omega
      have HS2 : Hid (sCompose a b = .error 3) := by show _ = _; rw [HS.out]; exact if_pos h128
      clear h128
      go_wp2_with fail
      go_ret2
      exact resC_error HS2.out rfl HB3.out
    · have hd : decide ((l.length : Int) > 128) = false := by simp; omega
      have HS2 : Hid (sCompose a b = .ok l) := by show _ = _; rw [HS.out]; exact if_neg h128
      clear h128
      go_wp2_with fail
      go_ret2
      exact resC_ok HS2.out rfl rfl HO3.out HB3.out

set_option maxHeartbeats 400000 in
theorem Diff_any (spa : Option Addr) (na ca : Nat) (a : List En) (spb : Option Addr) (nb cb : Nat) (b : List En) (w : World) (ha : EnsIn w w.heap.size spa na ca a) (hb : EnsIn w w.heap.size spb nb cb b) (hna : na ≤ 100000) (hnb : nb ≤ 100000) :
    Calls Tryd.prog 22 #[.slice spa na ca, .slice spb nb cb] w (ResC w (sDiff a b)) := by
  have HA := Lib.hid ha; have HBb := Lib.hid hb; clear ha hb
  obtain ⟨c1, hc1⟩ : ∃ c, vldE a = c := ⟨_, rfl⟩
  obtain ⟨c2, hc2⟩ : ∃ c, vldE b = c := ⟨_, rfl⟩
  have hv1 := fun w' (h : EnsIn w' w'.heap.size spa na ca a) => Valid_any spa na ca a w' h (by omega)
  have hv2 := fun w' (h : EnsIn w' w'.heap.size spb nb cb b) => Valid_any spb nb cb b w' h (by omega)
  rw [hc1] at hv1; rw [hc2] at hv2
  have HV1 := Lib.hid hv1; have HV2 := Lib.hid hv2; have HC1 := Lib.hid hc1; have HC2 := Lib.hid hc2
  clear hv1 hv2 hc1 hc2
  cases c1
  · go_enter Tryd.func22, Tryd.ntmps22
    go_wp2_with fail
    refine (HV1.out _ HA.out).mono ?_
    rintro e w1 ⟨rfl, hb1⟩
    have HB1 := Lib.hid hb1; clear hb1
    go_wp2_with fail
    go_ret2
    exact resC_error (by unfold sDiff; rw [HC1.out]; rfl) rfl HB1.out
  cases c2
  · go_enter Tryd.func22, Tryd.ntmps22
    go_wp2_with fail
    refine (HV1.out _ HA.out).mono ?_
    rintro e w1 ⟨rfl, hb1⟩
    have HB1 := Lib.hid hb1; clear hb1
    go_wp2_with fail
    refine (HV2.out _ (HBb.out.up HB1.out (Nat.le_refl _))).mono ?_
    rintro e w2 ⟨rfl, hb2⟩
    have HB2 := Lib.hid (HB1.out.trans (hb2.mono HB1.out.size)); clear hb2
    go_wp2_with fail
    go_ret2
    exact resC_error (by unfold sDiff; rw [HC1.out, HC2.out]; rfl) rfl HB2.out
  have HSA : Hid (Srt En.p a) := by have h := HC1.out; unfold vldE at h; simp at h; exact (ascB_iff a).1 h.2
  have HSB : Hid (Srt En.p b) := by have h := HC2.out; unfold vldE at h; simp at h; exact (ascB_iff b).1 h.2
  have hlen1 : (inv (cre a)).length = na := by rw [← HA.out.len]; simp [inv, cre]
  have hlen2 : (cre b).length = nb := by rw [← HBb.out.len]; simp [cre]
  have HL1 := Lib.hid hlen1; have HL2 := Lib.hid hlen2; clear hlen1 hlen2
  have HLC : Hid ((cre a).length = na) := by show _ = _; rw [← HA.out.len]; simp [cre]
  have HR := Lib.hid (dif_fol a b HSA.out HSB.out)
  go_enter Tryd.func22, Tryd.ntmps22
  go_wp2_with fail
  refine (HV1.out _ HA.out).mono ?_
  rintro e w1 ⟨rfl, hb1⟩
  have HB1 := Lib.hid hb1; clear hb1
  go_wp2_with fail
  refine (HV2.out _ (HBb.out.up HB1.out (Nat.le_refl _))).mono ?_
  rintro e w2 ⟨rfl, hb2⟩
  have HB2 := Lib.hid (HB1.out.trans (hb2.mono HB1.out.size)); clear hb2
  go_wp2_with fail
  refine (creations_any spa na ca a _ (HA.out.up HB2.out (Nat.le_refl _)) (by omega)).mono ?_
  rintro e w3 ⟨sp3, cap3, rfl, ho3, hb3⟩
  have HO3 := Lib.hid ho3
  have HB3 := Lib.hid (HB2.out.trans (hb3.mono HB2.out.size)); clear hb3 ho3
  go_wp2_with fail
  refine (inverse_any sp3 na cap3 (cre a) _ (HO3.out.cgs HLC.out) (by omega)).mono ?_
  rintro e w4 ⟨sp4, cap4, rfl, ho4, hb4⟩
  have HO4 := Lib.hid ho4
  have HB4 := Lib.hid (HB3.out.trans (hb4.mono HB3.out.size)); clear hb4 ho4
  go_wp2_with fail
  refine (creations_any spb nb cb b _ (HBb.out.up HB4.out (Nat.le_refl _)) (by omega)).mono ?_
  rintro e w5 ⟨sp5, cap5, rfl, ho5, hb5⟩
  have HO5 := Lib.hid ho5
  have HO4' := Lib.hid (HO4.out.below hb5)
  have HB5 := Lib.hid (HB4.out.trans (hb5.mono HB4.out.size)); clear hb5 ho5
  go_wp2_with fail
  have hfol := follow_any sp4 na cap4 (inv (cre a)) sp5 nb cap5 (cre b) w5 (by omega) (by omega) (HO4'.out.cgs HL1.out) (HO5.out.cgs HL2.out)
  rw [HR.out] at hfol
  have HFO := Lib.hid hfol; clear hfol
  refine HFO.out.mono ?_
  rintro e w6 ⟨sp6, cap6, rfl, ho6, hb6⟩
  have HO6 := Lib.hid (ho6.base HB5.out.size)
  have HB6 := Lib.hid (HB5.out.trans (hb6.mono HB5.out.size)); clear hb6 ho6
  go_wp2_with fail
  go_ret2
  exact resC_ok (l := cdif a b) (by unfold sDiff; rw [HC1.out, HC2.out]; rfl) rfl rfl HO6.out HB6.out
/-- the entries of changes -/
def mapE (l : List Cg) : List En := l.map toE
set_option maxRecDepth 100000 in
set_option maxHeartbeats 1000000 in
theorem Apply_any (spa : Option Addr) (na ca : Nat) (s : List En) (spb : Option Addr) (nb cb : Nat) (b : List Cg) (w : World) (ha : EnsIn w w.heap.size spa na ca s) (hb : CgsIn w w.heap.size spb nb cb b) (hna : na ≤ 100000) (hnb : nb ≤ 100000) :
    Calls Tryd.prog 23 #[.slice spa na ca, .slice spb nb cb] w (ResE w (sApply s b)) := by
  have HA := Lib.hid ha; have HBb := Lib.hid hb; clear ha hb
  obtain ⟨c1, hc1⟩ : ∃ c, vldE s = c := ⟨_, rfl⟩
  obtain ⟨c2, hc2⟩ : ∃ c, vldC b = c := ⟨_, rfl⟩
  have hv1 := fun w' (h : EnsIn w' w'.heap.size spa na ca s) => Valid_any spa na ca s w' h (by omega)
  have hv2 := fun w' (h : CgsIn w' w'.heap.size spb nb cb b) => validChanges_any spb nb cb b w' h (by omega)
  rw [hc1] at hv1; rw [hc2] at hv2
  have HV1 := Lib.hid hv1; have HV2 := Lib.hid hv2; have HC1 := Lib.hid hc1; have HC2 := Lib.hid hc2
  clear hv1 hv2 hc1 hc2
  cases c1
  · go_enter Tryd.func23, Tryd.ntmps23
    go_wp2_with fail
    refine (HV1.out _ HA.out).mono ?_
    rintro e w1 ⟨rfl, hb1⟩
    have HB1 := Lib.hid hb1; clear hb1
    go_wp2_with fail
    go_ret2
    exact resE_error (by unfold sApply; rw [HC1.out]; rfl) rfl HB1.out
  cases c2
  · go_enter Tryd.func23, Tryd.ntmps23
    go_wp2_with fail
    refine (HV1.out _ HA.out).mono ?_
    rintro e w1 ⟨rfl, hb1⟩
    have HB1 := Lib.hid hb1; clear hb1
    go_wp2_with fail
    refine (HV2.out _ (HBb.out.up HB1.out (Nat.le_refl _))).mono ?_
    rintro e w2 ⟨rfl, hb2⟩
    have HB2 := Lib.hid (HB1.out.trans (hb2.mono HB1.out.size)); clear hb2
    go_wp2_with fail
    go_ret2
    exact resE_error (by unfold sApply; rw [HC1.out, HC2.out]; rfl) rfl HB2.out
  have hlen1 : (cre s).length = na := by rw [← HA.out.len]; simp [cre]
  have HL1 := Lib.hid hlen1; clear hlen1
  obtain ⟨r, hr⟩ : ∃ r, fol (cre s) b = r := ⟨_, rfl⟩
  have hf := fun sp' cap' w' (h1 : CgsIn w' w'.heap.size sp' na cap' (cre s)) (h2 : CgsIn w' w'.heap.size spb nb cb b) => follow_any sp' na cap' (cre s) spb nb cb b w' (by omega) (by omega) h1 h2
  rw [hr] at hf
  have HLN : Hid (∀ l, r = some l → l.length ≤ na + nb) := by
    intro l hl
    rw [hl] at hr
    unfold fol at hr
    split at hr
    · injection hr with hr
      rw [← hr]
      exact Nat.le_trans (List.length_filterMap_le _ _) (by have := length_sbs (cre s) b; have h1 := HL1.out; have h2 := HBb.out.len; omega)
    · cases hr
  have HF := Lib.hid hf; have HR := Lib.hid hr; clear hf hr
  have HS : Hid (sApply s b = finA r) := by show _ = _; unfold sApply; rw [HC1.out, HC2.out, HR.out]; rfl
  go_enter Tryd.func23, Tryd.ntmps23
  go_wp2_with fail
  refine (HV1.out _ HA.out).mono ?_
  rintro e w1 ⟨rfl, hb1⟩
  have HB1 := Lib.hid hb1; clear hb1
  go_wp2_with fail
  refine (HV2.out _ (HBb.out.up HB1.out (Nat.le_refl _))).mono ?_
  rintro e w2 ⟨rfl, hb2⟩
  have HB2 := Lib.hid (HB1.out.trans (hb2.mono HB1.out.size)); clear hb2
  go_wp2_with fail
  refine (creations_any spa na ca s _ (HA.out.up HB2.out (Nat.le_refl _)) (by omega)).mono ?_
  rintro e w3 ⟨sp3, cap3, rfl, ho3, hb3⟩
  have HO3 := Lib.hid ho3
  have HB3 := Lib.hid (HB2.out.trans (hb3.mono HB2.out.size)); clear hb3 ho3
  go_wp2_with fail
  refine (HF.out sp3 cap3 w3 (HO3.out.cgs HL1.out) (HBb.out.up HB3.out (Nat.le_refl _))).mono ?_
  rintro e w4 hres
  cases r with
  | none =>
    obtain ⟨rfl, hb4⟩ := hres
    have HB4 := Lib.hid (HB3.out.trans (hb4.mono HB3.out.size)); clear hb4
    go_wp2_with fail
    go_ret2
    exact resE_error HS.out rfl HB4.out
  | some m =>
    obtain ⟨sp4, cap4, rfl, ho4, hb4⟩ := hres
    obtain ⟨N, hN⟩ : ∃ N, m.length = N := ⟨_, rfl⟩
    have hNb : N ≤ 200000 := by have := HLN.out m rfl; omega
    rw [hN] at ho4 ⊢
    have HLm := Lib.hid hN; clear hN
    have HO4 := Lib.hid ho4
    have HB4 := Lib.hid (HB3.out.trans (hb4.mono HB3.out.size)); clear hb4 ho4
    obtain ⟨c3, hc3⟩ : ∃ c, m.any needB = c := ⟨_, rfl⟩
    have hcn := containsN_any sp4 N cap4 m w4 (HO4.out.cgs HLm.out) (by omega)
    rw [hc3] at hcn
    have HCN := Lib.hid hcn; have HC3 := Lib.hid hc3; clear hcn hc3
    cases c3 with
    | true =>
      have HS2 : Hid (sApply s b = .error 9) := by show _ = _; rw [HS.out, finA_some, HC3.out]; rfl
      go_wp2_with fail
      refine HCN.out.mono ?_
      rintro e w5 ⟨rfl, hb5⟩
      have HB5 := Lib.hid (HB4.out.trans (hb5.mono HB4.out.size)); clear hb5
      go_wp2_with fail
      go_ret2
      exact resE_error HS2.out rfl HB5.out
    | false =>
    by_cases h64 : 64 < N
    · have hd : decide ((N : Int) > 64) = true := by simp; omega
      have HS2 : Hid (sApply s b = .error 3) := by show _ = _; rw [HS.out, finA_some, HC3.out, if_neg (by simp), HLm.out]; exact if_pos h64
      clear h64
      go_wp2_with fail
      refine HCN.out.mono ?_
      rintro e w5 ⟨rfl, hb5⟩
      have HB5 := Lib.hid (HB4.out.trans (hb5.mono HB4.out.size)); clear hb5
      go_wp2_with fail
      go_ret2
      exact resE_error HS2.out rfl HB5.out
    have hd : decide ((N : Int) > 64) = false := by simp; omega
    have HS2 : Hid (sApply s b = .ok (mapE m)) := by show _ = _; rw [HS.out, finA_some, HC3.out, if_neg (by simp), HLm.out]; exact if_neg h64
    clear h64
    go_wp2_with fail
    refine HCN.out.mono ?_
    rintro e w5 ⟨rfl, hb5⟩
    have HM := Lib.hid ((HO4.out.below hb5).cgs HLm.out)
    have HB5 := Lib.hid (HB4.out.trans (hb5.mono HB4.out.size)); clear hb5
    clear HF HR HO3 HO4 HCN HV1 HV2 HLN
    obtain ⟨i0, hi0, hz0, hz1, hz2⟩ := info_parts infoE3
    have hws := HB5.out.size
    go_wp2_with (refine wpList_make_own w5 rfl _ _ 22 rfl w5.heap.size 70 i0 _ 33 Tryd.underlying22 hi0 hz0 hz1 .i64 .i64 (N : Int) N rfl rfl rfl (by rw [hz2]; omega) (by unfold maxLen; omega) (Nat.le_refl _) ?_; intro w6 hown6 hg6)
    have HB1' := Lib.hid ((Below.refl w5.heap.size w5).grown hg6 (Nat.le_refl _) (fun k e => by cases e))
    have HO1 := Lib.hid hown6
    clear hg6 hown6 hi0 hz0 hz1 hz2
    go_loopw [8, 40] (fun v i wr => ∃ (k : Nat) (sp' : Option Addr) (cap' : Nat), k ≤ N ∧ i = .int .i64 k ∧ v = .slice sp' k cap' ∧ Hid (OwnE wr w5.heap.size (.slice sp' k cap') (mapE (m.take k))) ∧ Hid (Below w5.heap.size w5 wr)) (fun _ i _ => N - (intOf i).toNat)
    case atStart => exact ⟨0, _, _, Nat.zero_le _, rfl, rfl, ⟨HO1.out, by simp [mapE, toE]⟩, HB1'.out⟩
    case round =>
      clear HO1 HB1'
      obtain ⟨k, sp', cap', hk, rfl, rfl, hown, hbe⟩ := hrel
      have hbs := hbe.out.size
      by_cases hlt : k < N
      · have hd : decide ((k : Int) < (N : Int)) = true := by simp; omega
        obtain ⟨b, off, rfl, hbB, hcap, hr⟩ := HM.out.cells (by omega)
        have hkl : k < m.length := by rw [HM.out.len]; exact hlt
        obtain ⟨x, hx⟩ : ∃ x, m[k]? = some x := ⟨m[k], List.getElem?_eq_getElem hkl⟩
        have hok := HM.out.ok x (List.mem_of_getElem? hx)
        have HR := Lib.hid (range_belowS (hr k x hx) hbe.out hbB)
        have HI := Lib.hid (info_c hok); have HOK := Lib.hid hok
        have HS : Hid (65 = (cgL x).toArray.size) := by show _ = _; rw [List.size_toArray, cgL_length hok]
        have HT : Hid (mapE (m.take (k + 1)) = mapE (m.take k) ++ [⟨x.p, x.n⟩]) := by show _ = _; rw [List.take_add_one, hx]; simp [mapE, toE]
        have HKL : Hid (k = (mapE (m.take k)).length) := by show _ = _; simp [mapE, toE]; omega
        have p1 : (0 : Int) ≤ (k : Int) := by omega
        have p2 : (k : Int) < (N : Int) := by omega
        clear hr hx hkl hok
        go_wp2_with (first
          | (refine wpList_load_mid rfl 81 _ rfl b (off + k * 65) rfl _ _ HR.out Tryd.underlying81 rfl HI.out ?_)
          | (refine wpList_store_row rfl 81 _ _ rfl wr.heap.size _ rfl rfl 81 _ (heap_alloc_new wr _) (by simpa using HI.out) (by simpa using HS.out) (Array.all_eq_true_iff_forall_mem.2 (by simpa using cgL_one x)) ?_; rw [setRow_new]; generalize hw2 : World.alloc wr _ = w2; have he2 : CgB w2 wr.heap.size x := (by rw [← hw2]; exact heap_alloc_new _ _); have hb2 : Below wr.heap.size wr w2 := (by rw [← hw2]; exact (Below.refl _ _).alloc (Nat.le_refl _) _); have hz2 : wr.heap.size < w2.heap.size := (by rw [← hw2]; simp); have hp2 := he2.p; have HE2 := Lib.hid he2; have HW2 := Lib.hid hb2; have HO2 := Lib.hid (hown.out.below hb2); clear hw2 he2 hb2)
          | (refine wpList_load_mid rfl 28 _ rfl wr.heap.size 33 rfl _ _ (HE2.out.n HOK.out) Tryd.underlying28 rfl (info_d HOK.out.2) ?_)
          | (refine wpList_build_eq rfl 70 [(0, .tmp 46), (1, .tmp 48)] rfl [(0, .string x.p), (1, .agg (x.n.map (Value.int .u8)).toArray)] rfl _ (buildE x.p x.n HOK.out.2.1 _) ?_)
          | (refine wpList_slice_eq rfl 22 1 [(0, .tmp 49)] rfl [(0, .agg (enL ⟨x.p, x.n⟩).toArray)] rfl _ _ (sliceE _ ⟨x.p, x.n⟩ HOK.out.2) ?_; generalize hw3 : World.alloc w2 _ = w3; have he3 : EnB w3 w2.heap.size ⟨x.p, x.n⟩ := (by rw [← hw3]; exact heap_alloc_new _ _); have hb3 : Below w2.heap.size w2 w3 := (by rw [← hw3]; exact (Below.refl _ _).alloc (Nat.le_refl _) _); have hz3 : w2.heap.size < w3.heap.size := (by rw [← hw3]; simp); have HE3 := Lib.hid he3; have HW3 := Lib.hid (HW2.out.trans (hb3.mono (by omega))); have HO3 := Lib.hid (HO2.out.below hb3); clear hw3 he3 hb3)
          | (at_builtin; refine wpList_append_en rfl (.tmp 44) (.tmp 50) rfl w5.heap.size _ _ k HKL.out rfl HO3.out w2.heap.size ⟨x.p, x.n⟩ rfl HE3.out HOK.out.2 (by omega) (by omega) ?_; intro sp4 cap4 w4 HO4 HB4 HG4))
        have HB5 := Lib.hid ((hbe.out.trans (HW3.out.mono hbs)).trans HB4.out)
        go_roundw
        case rel => exact ⟨k + 1, sp4, cap4, hlt, by go_num, rfl, by show OwnE _ _ _ _; rw [HT.out]; exact HO4.out, HB5.out⟩
        case measure => simp [intOf]; omega
      · obtain rfl : k = N := by omega
        have hd : decide ((k : Int) < (k : Int)) = false := by simp
        have HT : Hid (mapE (m.take k) = mapE m) := by show _ = _; rw [List.take_of_length_le (by rw [HM.out.len]; exact Nat.le_refl _)]
        go_wp2_with fail
        go_ret2
        exact resE_ok HS2.out (by rw [← HLm.out]; simp [mapE, toE]) rfl ((show OwnE _ _ _ (mapE m) by rw [← HT.out]; exact hown.out).base hws) (HB5.out.trans (hbe.out.mono hws))
end Go.Proofs.YtkookkhlgllneaaDoor
