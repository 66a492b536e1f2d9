/-
  The walk of the iterator that sideBySide makes: it calls yield with the pairs that two lists have side by side, in their order (conditions: digests of 32 bytes, at most 1000000 elements each; a round that goes on leaves the two lists as they were).
-/
import Derived.Test.YtkookkhlgllneaaDoorSnE
import Derived.RangeFuncNested
import Derived.RangeFuncBound
import Derived.RangeFuncCalls
import Derived.RangeFuncLeaves
import Derived.RangeFuncKeeps
import Derived.OwnWalkIn
import Derived.TacticsInMore
import Derived.LoopNIn
import Derived.LoopIn
import Derived.BigQuiet
import Derived.Deep.QuietTactic
namespace Go.Proofs.YtkookkhlgllneaaDoor
open Go.RowKit

theorem CgsIn.at {w : World} {B g off n cap : Nat} {l : List Cg} (h : CgsIn w B (some ⟨g, off, none⟩) n cap l) {i : Nat} {x : Cg} (hi : l[i]? = some x) : g < B ∧ w.rangeAt g (off + i * 65) (cgL x) := by
  have hl := (List.getElem?_eq_some_iff.1 hi).1
  obtain ⟨b, o, e, hb, _, hr⟩ := h.cells (by have := h.len; omega)
  injection e with e; injection e with e1 e2; subst e1 e2
  exact ⟨hb, hr i x hi⟩
theorem rng_p {w : World} {g o : Nat} {x : Cg} (h : w.rangeAt g o (cgL x)) : w.cell? ⟨g, o, none⟩ = some (.string x.p) := h 0 _ rfl
theorem rng_sub {w : World} {g o : Nat} {cs : List Value} (h : w.rangeAt g o cs) (k : Nat) (sub : List Value) (hs : ∀ j v, sub[j]? = some v → cs[k + j]? = some v) : w.rangeAt g (o + k) sub := by
  intro j v hv
  have := h (k + j) v (hs j v hv)
  show w.cell? ⟨g, o + k + j, none⟩ = some v
  rw [Nat.add_assoc]; exact this
theorem rng_o {w : World} {g o : Nat} {x : Cg} (h : w.rangeAt g o (cgL x)) : w.rangeAt g (o + 1) (x.o.map (Value.int .u8)) := rng_sub h 1 _ (fun j v hv => by
  have hj := (List.getElem?_eq_some_iff.1 hv).1
  unfold cgL; rw [Nat.add_comm, List.getElem?_cons_succ, List.getElem?_append_left hj]; exact hv)
theorem rng_n {w : World} {g o : Nat} {x : Cg} (h : w.rangeAt g o (cgL x)) (hx : OkC x) : w.rangeAt g (o + 33) (x.n.map (Value.int .u8)) := rng_sub h 33 _ (fun j v hv => by
  unfold cgL; rw [show 33 + j = (32 + j) + 1 by omega, List.getElem?_cons_succ, List.getElem?_append_right (by rw [List.length_map, hx.1.1]; omega), List.length_map, hx.1.1, Nat.add_sub_cancel_left]; exact hv)
/-- what the iterator reads -/
structure SbIn (w : World) (B ba bb : Nat) (spa : Option Addr) (na ca : Nat) (a : List Cg) (spb : Option Addr) (nb cb : Nat) (b : List Cg) : Prop where
  pa : w.cell? ⟨ba, 0, none⟩ = some (.slice spa na ca)
  pb : w.cell? ⟨bb, 0, none⟩ = some (.slice spb nb cb)
  la : CgsIn w B spa na ca a
  lb : CgsIn w B spb nb cb b
/-- the blocks that it reads lie as they lay -/
def Keep3 (B ba bb : Nat) (W W' : World) : Prop := W.heap.size ≤ W'.heap.size ∧ (∀ k, k < B → W'.heap[k]? = W.heap[k]?) ∧ W'.heap[ba]? = W.heap[ba]? ∧ W'.heap[bb]? = W.heap[bb]?
theorem Keep3.trans {B ba bb : Nat} {X Y Z : World} (h : Keep3 B ba bb X Y) (k : Keep3 B ba bb Y Z) : Keep3 B ba bb X Z := ⟨Nat.le_trans h.1 k.1, fun i hi => (k.2.1 i hi).trans (h.2.1 i hi), k.2.2.1.trans h.2.2.1, k.2.2.2.trans h.2.2.2⟩
theorem Keep3.of_below {B ba bb M : Nat} {X Y : World} (h : Below M X Y) (h1 : B ≤ M) (h2 : ba < M) (h3 : bb < M) : Keep3 B ba bb X Y := ⟨h.size, fun k hk => h.block k (by omega), h.block _ h2, h.block _ h3⟩
theorem CgsIn.keep {w w' : World} {B : Nat} {sp : Option Addr} {n cap : Nat} {l : List Cg} (h : CgsIn w B sp n cap l) (hk : ∀ k, k < B → w'.heap[k]? = w.heap[k]?) : CgsIn w' B sp n cap l :=
  ⟨h.len, h.ok, fun hn => by
    obtain ⟨b, off, e, hlt, hc, hr⟩ := h.cells hn
    exact ⟨b, off, e, hlt, hc, fun i x hi j v hv => (World.cell?_of_block (a := ⟨b, off + i * 65 + j, none⟩) (hk b hlt)).trans (hr i x hi j v hv)⟩⟩
theorem SbIn.keep {w w' : World} {B ba bb : Nat} {spa : Option Addr} {na ca : Nat} {a : List Cg} {spb : Option Addr} {nb cb : Nat} {b : List Cg} (h : SbIn w B ba bb spa na ca a spb nb cb b) (hk : Keep3 B ba bb w w') : SbIn w' B ba bb spa na ca a spb nb cb b :=
  ⟨(World.cell?_of_block (a := ⟨ba, 0, none⟩) hk.2.2.1).trans h.pa, (World.cell?_of_block (a := ⟨bb, 0, none⟩) hk.2.2.2).trans h.pb, h.la.keep hk.2.1, h.lb.keep hk.2.1⟩
/-- a pair of changes whose digests are digests -/
abbrev CP := { q : Cg × Cg // OkC q.1 ∧ OkC q.2 }
def encP (q : CP) : Array Value := #[.agg (cgL q.1.1).toArray, .agg (cgL q.1.2).toArray]

/-- two fresh blocks for two changes, and nothing else is turned -/
structure TwoB (wr w : World) (cx cy : Array Value) : Prop where
  b : Below wr.heap.size wr w
  x : w.heap[wr.heap.size]? = some (.cells cx 81 (0, 0))
  y : w.heap[wr.heap.size + 1]? = some (.cells cy 81 (0, 0))
theorem TwoB.new (wr : World) (cx cy : Array Value) : TwoB wr ((wr.alloc (.cells cx 81)).alloc (.cells cy 81)) cx cy :=
  ⟨((Below.refl _ wr).alloc (Nat.le_refl _) _).alloc (by simp) _, (Below.heap_alloc _ _ _ (by simp)).trans (heap_alloc_new wr _), by
    have := heap_alloc_new (wr.alloc (.cells cx 81)) (.cells cy 81); rwa [World.size_alloc] at this⟩
theorem TwoB.size {wr w : World} {cx cy : Array Value} (h : TwoB wr w cx cy) : wr.heap.size + 1 < w.heap.size := (Array.getElem?_eq_some_iff.1 h.y).1
theorem TwoB.next {wr w w' : World} {cx cy : Array Value} (h : TwoB wr w cx cy) (hb : Below w.heap.size w w') : TwoB wr w' cx cy :=
  ⟨h.b.trans (hb.mono h.b.size), (hb.block _ (by have := h.size; omega)).trans h.x, (hb.block _ h.size).trans h.y⟩
theorem TwoB.setx {wr w : World} {cx cy : Array Value} (h : TwoB wr w cx cy) (c : Array Value) : TwoB wr (w.setRow wr.heap.size c) c cy :=
  ⟨below_setRow h.b (Nat.le_refl _) c, setRow_heap _ _ _ _ _ _ h.x, (setRow_other _ _ _ _ (by omega)).trans h.y⟩
theorem TwoB.sety {wr w : World} {cx cy : Array Value} (h : TwoB wr w cx cy) (c : Array Value) : TwoB wr (w.setRow (wr.heap.size + 1) c) cx c :=
  ⟨below_setRow h.b (by omega) c, (setRow_other _ _ _ _ (by omega)).trans h.x, setRow_heap _ _ _ _ _ _ h.y⟩
/-- a row's load, inside a fence -/
theorem wpListIn_load_rowS {F : Fence} {n : Nat} {P : Program} {ops : Array Oper} {rest : List Oper} {o : Oper} {a : Act} {w : World} {Q : Exit → Act → World → Prop} (hgd : o.guard = none) (ty : TypeId) (x : Operand) (ho : o.op = .load ty x)
    (g : Nat) (hx : a.eval x = .pointer (some ⟨g, 0, none⟩)) (t : TypeId) (cs : Array Value) (fr : Nat × Nat) (d : TypeDesc) (hg : w.heap[g]? = some (.cells cs t fr))
    (hu : P.underlying ty = some d) (hd : (match d with | .struct _ | .array _ _ => true | _ => false) = true) (hi : (P.info? ty).map (·.size) = some cs.size)
    (h : wpListIn F n P ops Q rest (a.put o.dst (.agg cs)) w) : wpListIn F n P ops Q (o :: rest) a w := by
  refine wpListIn_plain hgd fun K hK => ?_
  unfold Oper.wpIn
  refine ⟨?_, ?_⟩
  · simp [Oper.about, ho]
  · rw [Oper.semAt_plain F _ _ (by rw [ho]; intro c hc'; cases hc')]
    unfold execOp
    simp only [ho, hx, Instr.loadAt, Instr.sureAddr, Sem.run_bind, Sem.run_pure, Result.andThen_ok, run_loadVar_row w g t ty cs fr d hg hu hd hi]
    exact hK _ _ h
theorem drop_atS {l : List Cg} {i : Nat} {x : Cg} (h : l[i]? = some x) : l.drop i = x :: l.drop (i + 1) := by
  have hl := (List.getElem?_eq_some_iff.1 h).1
  rw [List.drop_eq_getElem_cons hl]; congr 1; exact (List.getElem?_eq_some_iff.1 h).2
theorem sbs_A {a b : List Cg} {i j : Nat} {x : Cg} (hx : a[i]? = some x) (h : b.drop j = [] ∨ ∃ y, b[j]? = some y ∧ pls x.p y.p = true) : sbs (a.drop i) (b.drop j) = (x, kp x.p x.n) :: sbs (a.drop (i + 1)) (b.drop j) := by
  rw [drop_atS hx]
  rcases h with h | ⟨y, hy, h⟩
  · rw [h, sbs_nil_right, sbs_nil_right]; rfl
  · rw [drop_atS hy, sbs_lt h]
theorem sbs_B {a b : List Cg} {i j : Nat} {y : Cg} (hy : b[j]? = some y) (h : a.drop i = [] ∨ ∃ x, a[i]? = some x ∧ pls x.p y.p = false ∧ pls y.p x.p = true) : sbs (a.drop i) (b.drop j) = (kp y.p y.o, y) :: sbs (a.drop i) (b.drop (j + 1)) := by
  rw [drop_atS hy]
  rcases h with h | ⟨x, hx, h1, h2⟩
  · rw [h, sbs_nil, sbs_nil]; rfl
  · rw [drop_atS hx, sbs_gt h1 h2]
theorem sbs_C {a b : List Cg} {i j : Nat} {x y : Cg} (hx : a[i]? = some x) (hy : b[j]? = some y) (h1 : pls x.p y.p = false) (h2 : pls y.p x.p = false) : sbs (a.drop i) (b.drop j) = (x, y) :: sbs (a.drop (i + 1)) (b.drop (j + 1)) := by
  rw [drop_atS hx, drop_atS hy, sbs_eq h1 h2]
/-- one pair more -/
theorem sbs_go {a b : List Cg} {pre : List CP} {i j i' j' : Nat} {q : Cg × Cg} (h : sbs a b = pre.map (·.1) ++ sbs (a.drop i) (b.drop j)) (hq : sbs (a.drop i) (b.drop j) = q :: sbs (a.drop i') (b.drop j')) (ok : OkC q.1 ∧ OkC q.2) :
    sbs a b = (pre ++ [(⟨q, ok⟩ : CP)]).map (·.1) ++ sbs (a.drop i') (b.drop j') := by rw [h, hq, List.map_append, List.append_assoc]; rfl
set_option maxRecDepth 100000 in
set_option maxHeartbeats 4000000 in
theorem sbs_in (n l B ba bb : Nat) (spa : Option Addr) (na ca : Nat) (a : List Cg) (spb : Option Addr) (nb cb : Nat) (b : List Cg) (hn : 1 ≤ n) (hna : na ≤ 1000000) (hnb : nb ≤ 1000000) (J Jx : List CP → World → Prop) (W0 : World)
    (hB : B ≤ W0.heap.size) (hba : ba < W0.heap.size) (hbb : bb < W0.heap.size)
    (hJ : ∀ pre W W', J pre W → Below W.heap.size W W' → J pre W')
    (hY : ∀ pre x W, J pre W → pre.length < (sbs a b).length → YieldAt Fence.wide (n - 1) Tryd.prog l (encP x) W fun e W' => (e = .returned (.bool true) ∧ J (pre ++ [x]) W' ∧ Keep3 B ba bb W W') ∨ (e = .returned (.bool false) ∧ Jx (pre ++ [x]) W'))
    (hc : SbIn W0 B ba bb spa na ca a spb nb cb b) (h0 : J [] W0) :
    CallsIn Fence.wide n Tryd.prog 139 #[.func (.yield l) #[] #[], .pointer (some ⟨ba, 0, none⟩), .pointer (some ⟨bb, 0, none⟩)] W0 fun e W' =>
      (∃ v, e = .returned v) ∧ ((∃ xs, xs.map (·.1) = sbs a b ∧ J xs W') ∨ (∃ pre, pre.map (·.1) <+: sbs a b ∧ Jx pre W')) := by
  have HJ := Lib.hid hJ; have HY := Lib.hid hY
  clear hJ hY
  refine callsIn_of_wp Tryd.func139 rfl trivial ?_ rfl
  simp only [Tryd.ntmps139, List.size_toArray, List.length_cons, List.length_nil, Nat.reduceAdd, Nat.reduceSub, Array.replicate_succ, Array.replicate_zero, List.push_toArray, List.append_toArray, List.nil_append, List.cons_append]
  gi_wp2
  gi_loopw [4, 5] (fun u v wr => ∃ (i j : Nat) (pre : List CP), i ≤ na ∧ j ≤ nb ∧ u = .int .i64 i ∧ v = .int .i64 j ∧ Hid (sbs a b = pre.map (·.1) ++ sbs (a.drop i) (b.drop j)) ∧ Hid (J pre wr) ∧ Hid (SbIn wr B ba bb spa na ca a spb nb cb b) ∧ W0.heap.size ≤ wr.heap.size) (fun u v _ => na + nb - (intOf u).toNat - (intOf v).toNat)
  case atStart => exact ⟨0, 0, [], Nat.zero_le _, Nat.zero_le _, rfl, rfl, rfl, h0, hc, Nat.le_refl _⟩
  case round =>
    clear hc h0
    obtain ⟨i, j, pre, hi, hj, rfl, rfl, HS, HJr, HC, hsz⟩ := hrel
    have hpa := HC.out.pa
    have hpb := HC.out.pb
    have hB' : B ≤ wr.heap.size := by omega
    have hba' : ba < wr.heap.size := by omega
    have hbb' : bb < wr.heap.size := by omega
    have p1 : (0 : Int) ≤ (i : Int) := by omega
    have p3 : (0 : Int) ≤ (j : Int) := by omega
    have s1 : IntKind.i64.wrap (i : Int) = (i : Int) := IntWalk.i64_in _ (by omega)
    have s2 : IntKind.i64.wrap (j : Int) = (j : Int) := IntWalk.i64_in _ (by omega)
    by_cases hia : i < na
    · have hd1 : decide ((i : Int) < (na : Int)) = true := by simp; omega
      have p2 : (i : Int) < (na : Int) := by omega
      obtain ⟨g1, o1, rfl, -, -, -⟩ := HC.out.la.cells (by omega)
      obtain ⟨x, hx⟩ : ∃ x, a[i]? = some x := ⟨a[i]'(by have := HC.out.la.len; omega), List.getElem?_eq_getElem _⟩
      have HOX := Lib.hid (HC.out.la.ok x (List.mem_of_getElem? hx))
      have HX := Lib.hid hx; clear hx
      have HDN := Lib.hid HOX.out.2
      by_cases hjb : j < nb
      · have hd2 : decide ((j : Int) < (nb : Int)) = true := by simp; omega
        have hd3 : ((j : Int) == (nb : Int)) = false := by simp; omega
        have hd4 : ((i : Int) == (na : Int)) = false := by simp; omega
        have p4 : (j : Int) < (nb : Int) := by omega
        obtain ⟨g2, o2, rfl, -, -, -⟩ := HC.out.lb.cells (by omega)
        obtain ⟨y, hy⟩ : ∃ y, b[j]? = some y := ⟨b[j]'(by have := HC.out.lb.len; omega), List.getElem?_eq_getElem _⟩
        have HOY := Lib.hid (HC.out.lb.ok y (List.mem_of_getElem? hy))
        have HYy := Lib.hid hy; clear hy
        have HDO := Lib.hid HOY.out.1
        by_cases hxy : pls x.p y.p = true
        · have hd5 : Op.bytesLess x.p.toList y.p.toList = true := hxy
          have HXY := Lib.hid hxy; clear hxy
          gi_wp2_with fail
          generalize hw1 : World.alloc (World.alloc wr _) _ = w1
          have HT1 : Hid (TwoB wr w1 Tryd.zeroCells81 Tryd.zeroCells81) := by show TwoB _ _ _ _; rw [← hw1]; exact TwoB.new _ _ _
          have HC1 := Lib.hid (HC.out.keep (Keep3.of_below HT1.out.b hB' hba' hbb'))
          clear hw1 hpa hpb
          have hpa := HC1.out.pa
          have hpb := HC1.out.pb
          have HOK : Hid (OkC x ∧ OkC (kp x.p x.n)) := ⟨HOX.out, HOX.out.2, HOX.out.2⟩
          have HI1 : Hid ((Tryd.prog.info? 81).map (·.size) = some (cgL x).toArray.size) := by show _ = _; rw [List.size_toArray]; exact info_c HOK.out.1
          have HI1s : Hid (65 = (cgL x).toArray.size) := by show _ = _; rw [List.size_toArray]; exact (cgL_length HOK.out.1).symm
          have HI2 : Hid ((Tryd.prog.info? 81).map (·.size) = some (cgL (kp x.p x.n)).toArray.size) := by show _ = _; rw [List.size_toArray]; exact info_c HOK.out.2
          have HI2s : Hid (65 = (cgL (kp x.p x.n)).toArray.size) := by show _ = _; rw [List.size_toArray]; exact (cgL_length HOK.out.2).symm
          have hxp := rng_p (HC1.out.la.at HX.out).2
          have hyp := rng_p (HC1.out.lb.at HYy.out).2
          refine wpIn_wide.2 ?_
          go_quiet (fail)
          have hbq : Below w1.heap.size w1 (w1.drewN nq) := ⟨rfl, rfl, rfl, Nat.le_refl _, fun _ _ => rfl⟩
          have HT2 := Lib.hid (HT1.out.next hbq)
          clear hbq
          generalize World.drewN w1 nq = w2 at HT2 ⊢
          have HC2 := Lib.hid (HC.out.keep (Keep3.of_below HT2.out.b hB' hba' hbb'))
          have HT2d := Lib.hid (HT2.out.next ((Below.refl w2.heap.size w2).drew))
          have HC2d := Lib.hid (HC.out.keep (Keep3.of_below HT2d.out.b hB' hba' hbb'))
          have hz2 := HT2.out.size
          have hB2 : B ≤ w2.drew.heap.size := by show B ≤ w2.heap.size; omega
          have hba2 : ba < w2.drew.heap.size := by show ba < w2.heap.size; omega
          have hbb2 : bb < w2.drew.heap.size := by show bb < w2.heap.size; omega
          gi_wp2_with fail
          refine wpIn_wide.2 ?_
          refine wp_region_held_drew (S := fun w' => SbIn w' B ba bb (some ⟨g1, o1, none⟩) na ca a (some ⟨g2, o2, none⟩) nb cb b) (by kernel_rfl) HC2d.out (fun hHeld => ?_)
          refine wpAnyH_take (i := 0) (oi := _) (v := ?v0n1) rfl (by kernel_rfl) (by kernel_rfl) (by kernel_rfl) (fun _ _ _ h => h) (Or.inl ⟨by rfl, ?hy0n1⟩) (by assumption) ?rest0n1
          case hy0n1 =>
            intro w' hSw
            have h1 := hSw.pa
            go_simp
            try with_reducible rfl
          try simp only [Act.put, List.getElem_toArray, List.getElem_cons_succ, List.getElem_cons_zero, List.setIfInBounds_toArray, List.set_cons_zero, List.set_cons_succ]
          refine wpAnyH_take (i := 1) (oi := _) (v := ?v1n2) rfl (by kernel_rfl) (by kernel_rfl) (by kernel_rfl) (fun _ _ _ h => h) (Or.inl ⟨by rfl, ?hy1n2⟩) (by assumption) ?rest1n2
          case hy1n2 =>
            intro w' hSw
            go_simp
            try with_reducible rfl
          try simp only [Act.put, List.getElem_toArray, List.getElem_cons_succ, List.getElem_cons_zero, List.setIfInBounds_toArray, List.set_cons_zero, List.set_cons_succ]
          refine wpAnyH_take (i := 2) (oi := _) (v := ?v2n3) rfl (by kernel_rfl) (by kernel_rfl) (by kernel_rfl) (fun _ _ _ h => h) (Or.inl ⟨by rfl, ?hy2n3⟩) (by assumption) ?rest2n3
          case hy2n3 =>
            intro w' hSw
            go_simp
            try with_reducible rfl
          try simp only [Act.put, List.getElem_toArray, List.getElem_cons_succ, List.getElem_cons_zero, List.setIfInBounds_toArray, List.set_cons_zero, List.set_cons_succ]
          refine' wpAnyH_take (i := 3) (oi := _) (v := _) rfl (by kernel_rfl) (by kernel_rfl) (by kernel_rfl) (fun _ _ _ h => h) (yieldsIf_load_mid (by rfl) _ _ rfl _ _ rfl _ _ ?hS3n4 Tryd.underlying81 rfl (info_c HOX.out)) (by assumption) ?rest3n4
          case hS3n4 =>
            intro w' hSw
            exact (hSw.la.at HX.out).2
          try simp only [Act.put, List.getElem_toArray, List.getElem_cons_succ, List.getElem_cons_zero, List.setIfInBounds_toArray, List.set_cons_zero, List.set_cons_succ]
          refine wpAnyH_take (i := 4) (oi := _) (v := ?v4n5) rfl (by kernel_rfl) (by kernel_rfl) (by kernel_rfl) (fun _ _ _ h => h) (Or.inl ⟨by rfl, ?hy4n5⟩) (by assumption) ?rest4n5
          case hy4n5 =>
            intro w' hSw
            have h1 := hSw.pa
            go_simp
            try with_reducible rfl
          try simp only [Act.put, List.getElem_toArray, List.getElem_cons_succ, List.getElem_cons_zero, List.setIfInBounds_toArray, List.set_cons_zero, List.set_cons_succ]
          refine wpAnyH_take (i := 5) (oi := _) (v := ?v5n6) rfl (by kernel_rfl) (by kernel_rfl) (by kernel_rfl) (fun _ _ _ h => h) (Or.inl ⟨by rfl, ?hy5n6⟩) (by assumption) ?rest5n6
          case hy5n6 =>
            intro w' hSw
            go_simp
            try with_reducible rfl
          try simp only [Act.put, List.getElem_toArray, List.getElem_cons_succ, List.getElem_cons_zero, List.setIfInBounds_toArray, List.set_cons_zero, List.set_cons_succ]
          refine wpAnyH_take (i := 6) (oi := _) (v := ?v6n7) rfl (by kernel_rfl) (by kernel_rfl) (by kernel_rfl) (fun _ _ _ h => h) (Or.inl ⟨by rfl, ?hy6n7⟩) (by assumption) ?rest6n7
          case hy6n7 =>
            intro w' hSw
            go_simp
            try with_reducible rfl
          try simp only [Act.put, List.getElem_toArray, List.getElem_cons_succ, List.getElem_cons_zero, List.setIfInBounds_toArray, List.set_cons_zero, List.set_cons_succ]
          refine wpAnyH_take (i := 7) (oi := _) (v := ?v7n8) rfl (by kernel_rfl) (by kernel_rfl) (by kernel_rfl) (fun _ _ _ h => h) (Or.inl ⟨by rfl, ?hy7n8⟩) (by assumption) ?rest7n8
          case hy7n8 =>
            intro w' hSw
            go_simp
            try with_reducible rfl
          try simp only [Act.put, List.getElem_toArray, List.getElem_cons_succ, List.getElem_cons_zero, List.setIfInBounds_toArray, List.set_cons_zero, List.set_cons_succ]
          refine wpAnyH_take (i := 8) (oi := _) (v := ?v8n9) rfl (by kernel_rfl) (by kernel_rfl) (by kernel_rfl) (fun _ _ _ h => h) (Or.inl ⟨by rfl, ?hy8n9⟩) (by assumption) ?rest8n9
          case hy8n9 =>
            intro w' hSw
            have h1 := rng_p (hSw.la.at HX.out).2
            go_simp
            try with_reducible rfl
          try simp only [Act.put, List.getElem_toArray, List.getElem_cons_succ, List.getElem_cons_zero, List.setIfInBounds_toArray, List.set_cons_zero, List.set_cons_succ]
          refine wpAnyH_take (i := 9) (oi := _) (v := ?v9n10) rfl (by kernel_rfl) (by kernel_rfl) (by kernel_rfl) (fun _ _ _ h => h) (Or.inl ⟨by rfl, ?hy9n10⟩) (by assumption) ?rest9n10
          case hy9n10 =>
            intro w' hSw
            have h1 := hSw.pa
            go_simp
            try with_reducible rfl
          try simp only [Act.put, List.getElem_toArray, List.getElem_cons_succ, List.getElem_cons_zero, List.setIfInBounds_toArray, List.set_cons_zero, List.set_cons_succ]
          refine wpAnyH_take (i := 10) (oi := _) (v := ?v10n11) rfl (by kernel_rfl) (by kernel_rfl) (by kernel_rfl) (fun _ _ _ h => h) (Or.inl ⟨by rfl, ?hy10n11⟩) (by assumption) ?rest10n11
          case hy10n11 =>
            intro w' hSw
            go_simp
            try with_reducible rfl
          try simp only [Act.put, List.getElem_toArray, List.getElem_cons_succ, List.getElem_cons_zero, List.setIfInBounds_toArray, List.set_cons_zero, List.set_cons_succ]
          refine wpAnyH_take (i := 11) (oi := _) (v := ?v11n12) rfl (by kernel_rfl) (by kernel_rfl) (by kernel_rfl) (fun _ _ _ h => h) (Or.inl ⟨by rfl, ?hy11n12⟩) (by assumption) ?rest11n12
          case hy11n12 =>
            intro w' hSw
            go_simp
            try with_reducible rfl
          try simp only [Act.put, List.getElem_toArray, List.getElem_cons_succ, List.getElem_cons_zero, List.setIfInBounds_toArray, List.set_cons_zero, List.set_cons_succ]
          refine wpAnyH_take (i := 12) (oi := _) (v := ?v12n13) rfl (by kernel_rfl) (by kernel_rfl) (by kernel_rfl) (fun _ _ _ h => h) (Or.inl ⟨by rfl, ?hy12n13⟩) (by assumption) ?rest12n13
          case hy12n13 =>
            intro w' hSw
            go_simp
            try with_reducible rfl
          try simp only [Act.put, List.getElem_toArray, List.getElem_cons_succ, List.getElem_cons_zero, List.setIfInBounds_toArray, List.set_cons_zero, List.set_cons_succ]
          refine' wpAnyH_take (i := 13) (oi := _) (v := _) rfl (by kernel_rfl) (by kernel_rfl) (by kernel_rfl) (fun _ _ _ h => h) (yieldsIf_load_mid (by rfl) _ _ rfl _ _ rfl _ _ ?hS13n14 Tryd.underlying28 rfl (info_d HOX.out.2)) (by assumption) ?rest13n14
          case hS13n14 =>
            intro w' hSw
            exact rng_n (hSw.la.at HX.out).2 HOX.out
          try simp only [Act.put, List.getElem_toArray, List.getElem_cons_succ, List.getElem_cons_zero, List.setIfInBounds_toArray, List.set_cons_zero, List.set_cons_succ]
          refine wpAnyH_ready (rs := [14]) (by kernel_rfl) (by simp) (AllReadyH.cons (o := _) rfl (fun K hK => ?_) AllReadyH.nil)
          go_simp
          with_reducible refine (kept_any x.p x.n _ HDN.out).mono ?_
          rintro e w3 ⟨rfl, hb3⟩
          go_wp2_with fail
          refine hK.out _ _ (HC2d.out.keep (Keep3.of_below hb3 hB2 hba2 hbb2)) (fun hHeld => ?_)
          clear hK K
          try simp only [Act.put, List.getElem_toArray, List.getElem_cons_succ, List.getElem_cons_zero, List.setIfInBounds_toArray, List.set_cons_zero, List.set_cons_succ]
          have HT3 := Lib.hid (HT2d.out.next hb3)
          clear hb3
          refine wpAnyH_ready (rs := [15]) (by kernel_rfl) (by simp) (AllReadyH.cons (o := _) rfl (fun K hK => ?_) AllReadyH.nil)
          rw [if_pos (by rfl)]
          refine wp_store_row 81 _ _ rfl (wr.heap.size) _ rfl rfl 81 Tryd.zeroCells81 HT3.out.x HI1.out ((rfl : (Tryd.zeroCells81).size = 65).trans HI1s.out) (cgA_one x) ?_
          have HT4 := Lib.hid (HT3.out.setx (cgL x).toArray)
          generalize World.setRow _ _ _ = w4 at HT4 ⊢
          have HS4 := Lib.hid (HC.out.keep (Keep3.of_below HT4.out.b hB' hba' hbb'))
          refine hK.out _ _ HS4.out (fun hHeld => ?_)
          clear hK K
          try simp only [Act.put, List.getElem_toArray, List.getElem_cons_succ, List.getElem_cons_zero, List.setIfInBounds_toArray, List.set_cons_zero, List.set_cons_succ]
          refine wpAnyH_ready (rs := [16]) (by kernel_rfl) (by simp) (AllReadyH.cons (o := _) rfl (fun K hK => ?_) AllReadyH.nil)
          rw [if_pos (by rfl)]
          refine wp_store_row 81 _ _ rfl (wr.heap.size + 1) _ rfl rfl 81 Tryd.zeroCells81 HT4.out.y HI2.out ((rfl : (Tryd.zeroCells81).size = 65).trans HI2s.out) (cgA_one (kp x.p x.n)) ?_
          have HT5 := Lib.hid (HT4.out.sety (cgL (kp x.p x.n)).toArray)
          generalize World.setRow _ _ _ = w5 at HT5 ⊢
          clear HS4
          have HS4 := Lib.hid (HC.out.keep (Keep3.of_below HT5.out.b hB' hba' hbb'))
          refine hK.out _ _ HS4.out (fun hHeld => ?_)
          clear hK K
          try simp only [Act.put, List.getElem_toArray, List.getElem_cons_succ, List.getElem_cons_zero, List.setIfInBounds_toArray, List.set_cons_zero, List.set_cons_succ]
          refine wpAnyH_done (by kernel_rfl) ?_ _
          have HQ := Lib.hid (sbs_go HS.out (sbs_A HX.out (.inr ⟨y, HYy.out, HXY.out⟩)) HOK.out)
          obtain ⟨fn, tmps, assign, body, hy, hR⟩ := HY.out pre ⟨(x, kp x.p x.n), HOK.out⟩ w5 (HJ.out pre wr w5 HJr.out HT5.out.b) (by rw [HQ.out, List.map_append, List.length_append, List.length_append]; simp; omega)
          simp only [encP] at hy
          gi_wp2_with (first
            | (refine wpListIn_load_rowS rfl 81 _ rfl (wr.heap.size + 1) rfl _ _ _ _ HT5.out.y Tryd.underlying81 rfl HI2.out ?_)
            | (refine wpListIn_load_rowS rfl 81 _ rfl wr.heap.size rfl _ _ _ _ HT5.out.x Tryd.underlying81 rfl HI1.out ?_))
          refine hR.mono ?_
          have hz5 := HT5.out.size
          clear hR hy
          rintro e W6 (⟨rfl, hJ6, hk6⟩ | ⟨rfl, hJx6⟩)
          · have HJ6 := Lib.hid hJ6
            have HC6 := Lib.hid (HS4.out.keep hk6)
            have hz6 := hk6.1
            clear hJ6 hk6
            gi_wp2
            go_roundw
            case rel => exact ⟨i + 1, j, pre ++ [⟨(x, kp x.p x.n), HOK.out⟩], by omega, by omega, by first | rfl | go_num, by first | rfl | go_num, HQ, HJ6, HC6, by omega⟩
            case measure => simp [intOf]; omega
          · have HJx6 := Lib.hid hJx6
            clear hJx6
            gi_wp2
            refine bodyPost_ret (results_none rfl _ _ _) rfl ?_
            exact ⟨⟨_, rfl⟩, .inr ⟨pre ++ [⟨(x, kp x.p x.n), HOK.out⟩], ⟨_, HQ.out.symm⟩, HJx6.out⟩⟩
        · have hxy : pls x.p y.p = false := by simpa using hxy
          have hd5 : Op.bytesLess x.p.toList y.p.toList = false := hxy
          have HXY := Lib.hid hxy; clear hxy
          by_cases hyx : pls y.p x.p = true
          · have hd6 : Op.bytesLess y.p.toList x.p.toList = true := hyx
            have HYX := Lib.hid hyx; clear hyx
            gi_wp2_with fail
            generalize hw1 : World.alloc (World.alloc wr _) _ = w1
            have HT1 : Hid (TwoB wr w1 Tryd.zeroCells81 Tryd.zeroCells81) := by show TwoB _ _ _ _; rw [← hw1]; exact TwoB.new _ _ _
            have HC1 := Lib.hid (HC.out.keep (Keep3.of_below HT1.out.b hB' hba' hbb'))
            clear hw1 hpa hpb
            have hpa := HC1.out.pa
            have hpb := HC1.out.pb
            have HOK : Hid (OkC (kp y.p y.o) ∧ OkC y) := ⟨⟨HOY.out.1, HOY.out.1⟩, HOY.out⟩
            have HI1 : Hid ((Tryd.prog.info? 81).map (·.size) = some (cgL (kp y.p y.o)).toArray.size) := by show _ = _; rw [List.size_toArray]; exact info_c HOK.out.1
            have HI1s : Hid (65 = (cgL (kp y.p y.o)).toArray.size) := by show _ = _; rw [List.size_toArray]; exact (cgL_length HOK.out.1).symm
            have HI2 : Hid ((Tryd.prog.info? 81).map (·.size) = some (cgL y).toArray.size) := by show _ = _; rw [List.size_toArray]; exact info_c HOK.out.2
            have HI2s : Hid (65 = (cgL y).toArray.size) := by show _ = _; rw [List.size_toArray]; exact (cgL_length HOK.out.2).symm
            have hxp := rng_p (HC1.out.la.at HX.out).2
            have hyp := rng_p (HC1.out.lb.at HYy.out).2
            refine wpIn_wide.2 ?_
            go_quiet (fail)
            have hbq : Below w1.heap.size w1 (w1.drewN nq) := ⟨rfl, rfl, rfl, Nat.le_refl _, fun _ _ => rfl⟩
            have HT2 := Lib.hid (HT1.out.next hbq)
            clear hbq
            generalize World.drewN w1 nq = w2 at HT2 ⊢
            clear HT1 HC1 hpa hpb hxp hyp
            clear w1
            rename World => w1
            have HT1 := HT2
            clear HT2
            have HC1 := Lib.hid (HC.out.keep (Keep3.of_below HT1.out.b hB' hba' hbb'))
            have hpa := HC1.out.pa
            have hpb := HC1.out.pb
            have hxp := rng_p (HC1.out.la.at HX.out).2
            have hyp := rng_p (HC1.out.lb.at HYy.out).2
            gi_wp2_with fail
            refine wpIn_wide.2 ?_
            go_quiet (fail)
            have hbq : Below w1.heap.size w1 (w1.drewN nq) := ⟨rfl, rfl, rfl, Nat.le_refl _, fun _ _ => rfl⟩
            have HT2 := Lib.hid (HT1.out.next hbq)
            clear hbq
            generalize World.drewN w1 nq = w2 at HT2 ⊢
            have HC2 := Lib.hid (HC.out.keep (Keep3.of_below HT2.out.b hB' hba' hbb'))
            have HT2d := Lib.hid (HT2.out.next ((Below.refl w2.heap.size w2).drew))
            have HC2d := Lib.hid (HC.out.keep (Keep3.of_below HT2d.out.b hB' hba' hbb'))
            have hz2 := HT2.out.size
            have hB2 : B ≤ w2.drew.heap.size := by show B ≤ w2.heap.size; omega
            have hba2 : ba < w2.drew.heap.size := by show ba < w2.heap.size; omega
            have hbb2 : bb < w2.drew.heap.size := by show bb < w2.heap.size; omega
            gi_wp2_with fail
            refine wpIn_wide.2 ?_
            refine wp_region_held_drew (S := fun w' => SbIn w' B ba bb (some ⟨g1, o1, none⟩) na ca a (some ⟨g2, o2, none⟩) nb cb b) (by kernel_rfl) HC2d.out (fun hHeld => ?_)
            refine wpAnyH_take (i := 0) (oi := _) (v := ?v0n15) rfl (by kernel_rfl) (by kernel_rfl) (by kernel_rfl) (fun _ _ _ h => h) (Or.inl ⟨by rfl, ?hy0n15⟩) (by assumption) ?rest0n15
            case hy0n15 =>
              intro w' hSw
              have h1 := hSw.pb
              go_simp
              try with_reducible rfl
            try simp only [Act.put, List.getElem_toArray, List.getElem_cons_succ, List.getElem_cons_zero, List.setIfInBounds_toArray, List.set_cons_zero, List.set_cons_succ]
            refine wpAnyH_take (i := 1) (oi := _) (v := ?v1n16) rfl (by kernel_rfl) (by kernel_rfl) (by kernel_rfl) (fun _ _ _ h => h) (Or.inl ⟨by rfl, ?hy1n16⟩) (by assumption) ?rest1n16
            case hy1n16 =>
              intro w' hSw
              go_simp
              try with_reducible rfl
            try simp only [Act.put, List.getElem_toArray, List.getElem_cons_succ, List.getElem_cons_zero, List.setIfInBounds_toArray, List.set_cons_zero, List.set_cons_succ]
            refine wpAnyH_take (i := 2) (oi := _) (v := ?v2n17) rfl (by kernel_rfl) (by kernel_rfl) (by kernel_rfl) (fun _ _ _ h => h) (Or.inl ⟨by rfl, ?hy2n17⟩) (by assumption) ?rest2n17
            case hy2n17 =>
              intro w' hSw
              go_simp
              try with_reducible rfl
            try simp only [Act.put, List.getElem_toArray, List.getElem_cons_succ, List.getElem_cons_zero, List.setIfInBounds_toArray, List.set_cons_zero, List.set_cons_succ]
            refine wpAnyH_take (i := 3) (oi := _) (v := ?v3n18) rfl (by kernel_rfl) (by kernel_rfl) (by kernel_rfl) (fun _ _ _ h => h) (Or.inl ⟨by rfl, ?hy3n18⟩) (by assumption) ?rest3n18
            case hy3n18 =>
              intro w' hSw
              go_simp
              try with_reducible rfl
            try simp only [Act.put, List.getElem_toArray, List.getElem_cons_succ, List.getElem_cons_zero, List.setIfInBounds_toArray, List.set_cons_zero, List.set_cons_succ]
            refine wpAnyH_take (i := 4) (oi := _) (v := ?v4n19) rfl (by kernel_rfl) (by kernel_rfl) (by kernel_rfl) (fun _ _ _ h => h) (Or.inl ⟨by rfl, ?hy4n19⟩) (by assumption) ?rest4n19
            case hy4n19 =>
              intro w' hSw
              have h1 := rng_p (hSw.lb.at HYy.out).2
              go_simp
              try with_reducible rfl
            try simp only [Act.put, List.getElem_toArray, List.getElem_cons_succ, List.getElem_cons_zero, List.setIfInBounds_toArray, List.set_cons_zero, List.set_cons_succ]
            refine wpAnyH_take (i := 5) (oi := _) (v := ?v5n20) rfl (by kernel_rfl) (by kernel_rfl) (by kernel_rfl) (fun _ _ _ h => h) (Or.inl ⟨by rfl, ?hy5n20⟩) (by assumption) ?rest5n20
            case hy5n20 =>
              intro w' hSw
              have h1 := hSw.pb
              go_simp
              try with_reducible rfl
            try simp only [Act.put, List.getElem_toArray, List.getElem_cons_succ, List.getElem_cons_zero, List.setIfInBounds_toArray, List.set_cons_zero, List.set_cons_succ]
            refine wpAnyH_take (i := 6) (oi := _) (v := ?v6n21) rfl (by kernel_rfl) (by kernel_rfl) (by kernel_rfl) (fun _ _ _ h => h) (Or.inl ⟨by rfl, ?hy6n21⟩) (by assumption) ?rest6n21
            case hy6n21 =>
              intro w' hSw
              go_simp
              try with_reducible rfl
            try simp only [Act.put, List.getElem_toArray, List.getElem_cons_succ, List.getElem_cons_zero, List.setIfInBounds_toArray, List.set_cons_zero, List.set_cons_succ]
            refine wpAnyH_take (i := 7) (oi := _) (v := ?v7n22) rfl (by kernel_rfl) (by kernel_rfl) (by kernel_rfl) (fun _ _ _ h => h) (Or.inl ⟨by rfl, ?hy7n22⟩) (by assumption) ?rest7n22
            case hy7n22 =>
              intro w' hSw
              go_simp
              try with_reducible rfl
            try simp only [Act.put, List.getElem_toArray, List.getElem_cons_succ, List.getElem_cons_zero, List.setIfInBounds_toArray, List.set_cons_zero, List.set_cons_succ]
            refine wpAnyH_take (i := 8) (oi := _) (v := ?v8n23) rfl (by kernel_rfl) (by kernel_rfl) (by kernel_rfl) (fun _ _ _ h => h) (Or.inl ⟨by rfl, ?hy8n23⟩) (by assumption) ?rest8n23
            case hy8n23 =>
              intro w' hSw
              go_simp
              try with_reducible rfl
            try simp only [Act.put, List.getElem_toArray, List.getElem_cons_succ, List.getElem_cons_zero, List.setIfInBounds_toArray, List.set_cons_zero, List.set_cons_succ]
            refine' wpAnyH_take (i := 9) (oi := _) (v := _) rfl (by kernel_rfl) (by kernel_rfl) (by kernel_rfl) (fun _ _ _ h => h) (yieldsIf_load_mid (by rfl) _ _ rfl _ _ rfl _ _ ?hS9n24 Tryd.underlying28 rfl (info_d HOY.out.1)) (by assumption) ?rest9n24
            case hS9n24 =>
              intro w' hSw
              exact rng_o (hSw.lb.at HYy.out).2
            try simp only [Act.put, List.getElem_toArray, List.getElem_cons_succ, List.getElem_cons_zero, List.setIfInBounds_toArray, List.set_cons_zero, List.set_cons_succ]
            refine wpAnyH_take (i := 11) (oi := _) (v := ?v11n25) rfl (by kernel_rfl) (by kernel_rfl) (by kernel_rfl) (fun _ _ _ h => h) (Or.inl ⟨by rfl, ?hy11n25⟩) (by assumption) ?rest11n25
            case hy11n25 =>
              intro w' hSw
              have h1 := hSw.pb
              go_simp
              try with_reducible rfl
            try simp only [Act.put, List.getElem_toArray, List.getElem_cons_succ, List.getElem_cons_zero, List.setIfInBounds_toArray, List.set_cons_zero, List.set_cons_succ]
            refine wpAnyH_take (i := 12) (oi := _) (v := ?v12n26) rfl (by kernel_rfl) (by kernel_rfl) (by kernel_rfl) (fun _ _ _ h => h) (Or.inl ⟨by rfl, ?hy12n26⟩) (by assumption) ?rest12n26
            case hy12n26 =>
              intro w' hSw
              go_simp
              try with_reducible rfl
            try simp only [Act.put, List.getElem_toArray, List.getElem_cons_succ, List.getElem_cons_zero, List.setIfInBounds_toArray, List.set_cons_zero, List.set_cons_succ]
            refine wpAnyH_take (i := 13) (oi := _) (v := ?v13n27) rfl (by kernel_rfl) (by kernel_rfl) (by kernel_rfl) (fun _ _ _ h => h) (Or.inl ⟨by rfl, ?hy13n27⟩) (by assumption) ?rest13n27
            case hy13n27 =>
              intro w' hSw
              go_simp
              try with_reducible rfl
            try simp only [Act.put, List.getElem_toArray, List.getElem_cons_succ, List.getElem_cons_zero, List.setIfInBounds_toArray, List.set_cons_zero, List.set_cons_succ]
            refine' wpAnyH_take (i := 14) (oi := _) (v := _) rfl (by kernel_rfl) (by kernel_rfl) (by kernel_rfl) (fun _ _ _ h => h) (yieldsIf_load_mid (by rfl) _ _ rfl _ _ rfl _ _ ?hS14n28 Tryd.underlying81 rfl (info_c HOY.out)) (by assumption) ?rest14n28
            case hS14n28 =>
              intro w' hSw
              exact (hSw.lb.at HYy.out).2
            try simp only [Act.put, List.getElem_toArray, List.getElem_cons_succ, List.getElem_cons_zero, List.setIfInBounds_toArray, List.set_cons_zero, List.set_cons_succ]
            refine wpAnyH_ready (rs := [10]) (by kernel_rfl) (by simp) (AllReadyH.cons (o := _) rfl (fun K hK => ?_) AllReadyH.nil)
            go_simp
            with_reducible refine (kept_any y.p y.o _ HDO.out).mono ?_
            rintro e w3 ⟨rfl, hb3⟩
            go_wp2_with fail
            refine hK.out _ _ (HC2d.out.keep (Keep3.of_below hb3 hB2 hba2 hbb2)) (fun hHeld => ?_)
            clear hK K
            try simp only [Act.put, List.getElem_toArray, List.getElem_cons_succ, List.getElem_cons_zero, List.setIfInBounds_toArray, List.set_cons_zero, List.set_cons_succ]
            have HT3 := Lib.hid (HT2d.out.next hb3)
            clear hb3
            refine wpAnyH_ready (rs := [15]) (by kernel_rfl) (by simp) (AllReadyH.cons (o := _) rfl (fun K hK => ?_) AllReadyH.nil)
            rw [if_pos (by rfl)]
            refine wp_store_row 81 _ _ rfl (wr.heap.size) _ rfl rfl 81 Tryd.zeroCells81 HT3.out.x HI1.out ((rfl : (Tryd.zeroCells81).size = 65).trans HI1s.out) (cgA_one (kp y.p y.o)) ?_
            have HT4 := Lib.hid (HT3.out.setx (cgL (kp y.p y.o)).toArray)
            generalize World.setRow _ _ _ = w4 at HT4 ⊢
            have HS4 := Lib.hid (HC.out.keep (Keep3.of_below HT4.out.b hB' hba' hbb'))
            refine hK.out _ _ HS4.out (fun hHeld => ?_)
            clear hK K
            try simp only [Act.put, List.getElem_toArray, List.getElem_cons_succ, List.getElem_cons_zero, List.setIfInBounds_toArray, List.set_cons_zero, List.set_cons_succ]
            refine wpAnyH_ready (rs := [16]) (by kernel_rfl) (by simp) (AllReadyH.cons (o := _) rfl (fun K hK => ?_) AllReadyH.nil)
            rw [if_pos (by rfl)]
            refine wp_store_row 81 _ _ rfl (wr.heap.size + 1) _ rfl rfl 81 Tryd.zeroCells81 HT4.out.y HI2.out ((rfl : (Tryd.zeroCells81).size = 65).trans HI2s.out) (cgA_one y) ?_
            have HT5 := Lib.hid (HT4.out.sety (cgL y).toArray)
            generalize World.setRow _ _ _ = w5 at HT5 ⊢
            clear HS4
            have HS4 := Lib.hid (HC.out.keep (Keep3.of_below HT5.out.b hB' hba' hbb'))
            refine hK.out _ _ HS4.out (fun hHeld => ?_)
            clear hK K
            try simp only [Act.put, List.getElem_toArray, List.getElem_cons_succ, List.getElem_cons_zero, List.setIfInBounds_toArray, List.set_cons_zero, List.set_cons_succ]
            refine wpAnyH_done (by kernel_rfl) ?_ _
            have HQ := Lib.hid (sbs_go HS.out (sbs_B HYy.out (.inr ⟨x, HX.out, HXY.out, HYX.out⟩)) HOK.out)
            obtain ⟨fn, tmps, assign, body, hy, hR⟩ := HY.out pre ⟨(kp y.p y.o, y), HOK.out⟩ w5 (HJ.out pre wr w5 HJr.out HT5.out.b) (by rw [HQ.out, List.map_append, List.length_append, List.length_append]; simp; omega)
            simp only [encP] at hy
            gi_wp2_with (first
              | (refine wpListIn_load_rowS rfl 81 _ rfl (wr.heap.size + 1) rfl _ _ _ _ HT5.out.y Tryd.underlying81 rfl HI2.out ?_)
              | (refine wpListIn_load_rowS rfl 81 _ rfl wr.heap.size rfl _ _ _ _ HT5.out.x Tryd.underlying81 rfl HI1.out ?_))
            refine hR.mono ?_
            have hz5 := HT5.out.size
            clear hR hy
            rintro e W6 (⟨rfl, hJ6, hk6⟩ | ⟨rfl, hJx6⟩)
            · have HJ6 := Lib.hid hJ6
              have HC6 := Lib.hid (HS4.out.keep hk6)
              have hz6 := hk6.1
              clear hJ6 hk6
              gi_wp2
              go_roundw
              case rel => exact ⟨i, j + 1, pre ++ [⟨(kp y.p y.o, y), HOK.out⟩], by omega, by omega, by first | rfl | go_num, by first | rfl | go_num, HQ, HJ6, HC6, by omega⟩
              case measure => simp [intOf]; omega
            · have HJx6 := Lib.hid hJx6
              clear hJx6
              gi_wp2
              refine bodyPost_ret (results_none rfl _ _ _) rfl ?_
              exact ⟨⟨_, rfl⟩, .inr ⟨pre ++ [⟨(kp y.p y.o, y), HOK.out⟩], ⟨_, HQ.out.symm⟩, HJx6.out⟩⟩
          · have hyx : pls y.p x.p = false := by simpa using hyx
            have hd6 : Op.bytesLess y.p.toList x.p.toList = false := hyx
            have HYX := Lib.hid hyx; clear hyx
            gi_wp2_with fail
            generalize hw1 : World.alloc (World.alloc wr _) _ = w1
            have HT1 : Hid (TwoB wr w1 Tryd.zeroCells81 Tryd.zeroCells81) := by show TwoB _ _ _ _; rw [← hw1]; exact TwoB.new _ _ _
            have HC1 := Lib.hid (HC.out.keep (Keep3.of_below HT1.out.b hB' hba' hbb'))
            clear hw1 hpa hpb
            have hpa := HC1.out.pa
            have hpb := HC1.out.pb
            have HOK : Hid (OkC x ∧ OkC y) := ⟨HOX.out, HOY.out⟩
            have HI1 : Hid ((Tryd.prog.info? 81).map (·.size) = some (cgL x).toArray.size) := by show _ = _; rw [List.size_toArray]; exact info_c HOK.out.1
            have HI1s : Hid (65 = (cgL x).toArray.size) := by show _ = _; rw [List.size_toArray]; exact (cgL_length HOK.out.1).symm
            have HI2 : Hid ((Tryd.prog.info? 81).map (·.size) = some (cgL y).toArray.size) := by show _ = _; rw [List.size_toArray]; exact info_c HOK.out.2
            have HI2s : Hid (65 = (cgL y).toArray.size) := by show _ = _; rw [List.size_toArray]; exact (cgL_length HOK.out.2).symm
            have hxp := rng_p (HC1.out.la.at HX.out).2
            have hyp := rng_p (HC1.out.lb.at HYy.out).2
            refine wpIn_wide.2 ?_
            go_quiet (fail)
            have hbq : Below w1.heap.size w1 (w1.drewN nq) := ⟨rfl, rfl, rfl, Nat.le_refl _, fun _ _ => rfl⟩
            have HT2 := Lib.hid (HT1.out.next hbq)
            clear hbq
            generalize World.drewN w1 nq = w2 at HT2 ⊢
            clear HT1 HC1 hpa hpb hxp hyp
            clear w1
            rename World => w1
            have HT1 := HT2
            clear HT2
            have HC1 := Lib.hid (HC.out.keep (Keep3.of_below HT1.out.b hB' hba' hbb'))
            have hpa := HC1.out.pa
            have hpb := HC1.out.pb
            have hxp := rng_p (HC1.out.la.at HX.out).2
            have hyp := rng_p (HC1.out.lb.at HYy.out).2
            gi_wp2_with fail
            refine wpIn_wide.2 ?_
            go_quiet (fail)
            have hbq : Below w1.heap.size w1 (w1.drewN nq) := ⟨rfl, rfl, rfl, Nat.le_refl _, fun _ _ => rfl⟩
            have HT2 := Lib.hid (HT1.out.next hbq)
            clear hbq
            generalize World.drewN w1 nq = w2 at HT2 ⊢
            have HC2 := Lib.hid (HC.out.keep (Keep3.of_below HT2.out.b hB' hba' hbb'))
            have HT2d := Lib.hid (HT2.out.next ((Below.refl w2.heap.size w2).drew))
            have HC2d := Lib.hid (HC.out.keep (Keep3.of_below HT2d.out.b hB' hba' hbb'))
            have hz2 := HT2.out.size
            have hB2 : B ≤ w2.drew.heap.size := by show B ≤ w2.heap.size; omega
            have hba2 : ba < w2.drew.heap.size := by show ba < w2.heap.size; omega
            have hbb2 : bb < w2.drew.heap.size := by show bb < w2.heap.size; omega
            gi_wp2_with fail
            refine wpIn_wide.2 ?_
            refine wp_region_held_drew (S := fun w' => SbIn w' B ba bb (some ⟨g1, o1, none⟩) na ca a (some ⟨g2, o2, none⟩) nb cb b) (by kernel_rfl) HC2d.out (fun hHeld => ?_)
            refine wpAnyH_take (i := 0) (oi := _) (v := ?v0n29) rfl (by kernel_rfl) (by kernel_rfl) (by kernel_rfl) (fun _ _ _ h => h) (Or.inl ⟨by rfl, ?hy0n29⟩) (by assumption) ?rest0n29
            case hy0n29 =>
              intro w' hSw
              have h1 := hSw.pa
              go_simp
              try with_reducible rfl
            try simp only [Act.put, List.getElem_toArray, List.getElem_cons_succ, List.getElem_cons_zero, List.setIfInBounds_toArray, List.set_cons_zero, List.set_cons_succ]
            refine wpAnyH_take (i := 1) (oi := _) (v := ?v1n30) rfl (by kernel_rfl) (by kernel_rfl) (by kernel_rfl) (fun _ _ _ h => h) (Or.inl ⟨by rfl, ?hy1n30⟩) (by assumption) ?rest1n30
            case hy1n30 =>
              intro w' hSw
              go_simp
              try with_reducible rfl
            try simp only [Act.put, List.getElem_toArray, List.getElem_cons_succ, List.getElem_cons_zero, List.setIfInBounds_toArray, List.set_cons_zero, List.set_cons_succ]
            refine wpAnyH_take (i := 2) (oi := _) (v := ?v2n31) rfl (by kernel_rfl) (by kernel_rfl) (by kernel_rfl) (fun _ _ _ h => h) (Or.inl ⟨by rfl, ?hy2n31⟩) (by assumption) ?rest2n31
            case hy2n31 =>
              intro w' hSw
              go_simp
              try with_reducible rfl
            try simp only [Act.put, List.getElem_toArray, List.getElem_cons_succ, List.getElem_cons_zero, List.setIfInBounds_toArray, List.set_cons_zero, List.set_cons_succ]
            refine' wpAnyH_take (i := 3) (oi := _) (v := _) rfl (by kernel_rfl) (by kernel_rfl) (by kernel_rfl) (fun _ _ _ h => h) (yieldsIf_load_mid (by rfl) _ _ rfl _ _ rfl _ _ ?hS3n32 Tryd.underlying81 rfl (info_c HOX.out)) (by assumption) ?rest3n32
            case hS3n32 =>
              intro w' hSw
              exact (hSw.la.at HX.out).2
            try simp only [Act.put, List.getElem_toArray, List.getElem_cons_succ, List.getElem_cons_zero, List.setIfInBounds_toArray, List.set_cons_zero, List.set_cons_succ]
            refine wpAnyH_take (i := 4) (oi := _) (v := ?v4n33) rfl (by kernel_rfl) (by kernel_rfl) (by kernel_rfl) (fun _ _ _ h => h) (Or.inl ⟨by rfl, ?hy4n33⟩) (by assumption) ?rest4n33
            case hy4n33 =>
              intro w' hSw
              have h1 := hSw.pb
              go_simp
              try with_reducible rfl
            try simp only [Act.put, List.getElem_toArray, List.getElem_cons_succ, List.getElem_cons_zero, List.setIfInBounds_toArray, List.set_cons_zero, List.set_cons_succ]
            refine wpAnyH_take (i := 5) (oi := _) (v := ?v5n34) rfl (by kernel_rfl) (by kernel_rfl) (by kernel_rfl) (fun _ _ _ h => h) (Or.inl ⟨by rfl, ?hy5n34⟩) (by assumption) ?rest5n34
            case hy5n34 =>
              intro w' hSw
              go_simp
              try with_reducible rfl
            try simp only [Act.put, List.getElem_toArray, List.getElem_cons_succ, List.getElem_cons_zero, List.setIfInBounds_toArray, List.set_cons_zero, List.set_cons_succ]
            refine wpAnyH_take (i := 6) (oi := _) (v := ?v6n35) rfl (by kernel_rfl) (by kernel_rfl) (by kernel_rfl) (fun _ _ _ h => h) (Or.inl ⟨by rfl, ?hy6n35⟩) (by assumption) ?rest6n35
            case hy6n35 =>
              intro w' hSw
              go_simp
              try with_reducible rfl
            try simp only [Act.put, List.getElem_toArray, List.getElem_cons_succ, List.getElem_cons_zero, List.setIfInBounds_toArray, List.set_cons_zero, List.set_cons_succ]
            refine' wpAnyH_take (i := 7) (oi := _) (v := _) rfl (by kernel_rfl) (by kernel_rfl) (by kernel_rfl) (fun _ _ _ h => h) (yieldsIf_load_mid (by rfl) _ _ rfl _ _ rfl _ _ ?hS7n36 Tryd.underlying81 rfl (info_c HOY.out)) (by assumption) ?rest7n36
            case hS7n36 =>
              intro w' hSw
              exact (hSw.lb.at HYy.out).2
            try simp only [Act.put, List.getElem_toArray, List.getElem_cons_succ, List.getElem_cons_zero, List.setIfInBounds_toArray, List.set_cons_zero, List.set_cons_succ]
            have HT3 := HT2d
            refine wpAnyH_ready (rs := [8]) (by kernel_rfl) (by simp) (AllReadyH.cons (o := _) rfl (fun K hK => ?_) AllReadyH.nil)
            rw [if_pos (by rfl)]
            refine wp_store_row 81 _ _ rfl (wr.heap.size) _ rfl rfl 81 Tryd.zeroCells81 HT3.out.x HI1.out ((rfl : (Tryd.zeroCells81).size = 65).trans HI1s.out) (cgA_one x) ?_
            have HT4 := Lib.hid (HT3.out.setx (cgL x).toArray)
            generalize World.setRow _ _ _ = w4 at HT4 ⊢
            have HS4 := Lib.hid (HC.out.keep (Keep3.of_below HT4.out.b hB' hba' hbb'))
            refine hK.out _ _ HS4.out (fun hHeld => ?_)
            clear hK K
            try simp only [Act.put, List.getElem_toArray, List.getElem_cons_succ, List.getElem_cons_zero, List.setIfInBounds_toArray, List.set_cons_zero, List.set_cons_succ]
            refine wpAnyH_ready (rs := [9]) (by kernel_rfl) (by simp) (AllReadyH.cons (o := _) rfl (fun K hK => ?_) AllReadyH.nil)
            rw [if_pos (by rfl)]
            refine wp_store_row 81 _ _ rfl (wr.heap.size + 1) _ rfl rfl 81 Tryd.zeroCells81 HT4.out.y HI2.out ((rfl : (Tryd.zeroCells81).size = 65).trans HI2s.out) (cgA_one y) ?_
            have HT5 := Lib.hid (HT4.out.sety (cgL y).toArray)
            generalize World.setRow _ _ _ = w5 at HT5 ⊢
            clear HS4
            have HS4 := Lib.hid (HC.out.keep (Keep3.of_below HT5.out.b hB' hba' hbb'))
            refine hK.out _ _ HS4.out (fun hHeld => ?_)
            clear hK K
            try simp only [Act.put, List.getElem_toArray, List.getElem_cons_succ, List.getElem_cons_zero, List.setIfInBounds_toArray, List.set_cons_zero, List.set_cons_succ]
            refine wpAnyH_done (by kernel_rfl) ?_ _
            have HQ := Lib.hid (sbs_go HS.out (sbs_C HX.out HYy.out HXY.out HYX.out) HOK.out)
            obtain ⟨fn, tmps, assign, body, hy, hR⟩ := HY.out pre ⟨(x, y), HOK.out⟩ w5 (HJ.out pre wr w5 HJr.out HT5.out.b) (by rw [HQ.out, List.map_append, List.length_append, List.length_append]; simp; omega)
            simp only [encP] at hy
            gi_wp2_with (first
              | (refine wpListIn_load_rowS rfl 81 _ rfl (wr.heap.size + 1) rfl _ _ _ _ HT5.out.y Tryd.underlying81 rfl HI2.out ?_)
              | (refine wpListIn_load_rowS rfl 81 _ rfl wr.heap.size rfl _ _ _ _ HT5.out.x Tryd.underlying81 rfl HI1.out ?_))
            refine hR.mono ?_
            have hz5 := HT5.out.size
            clear hR hy
            rintro e W6 (⟨rfl, hJ6, hk6⟩ | ⟨rfl, hJx6⟩)
            · have HJ6 := Lib.hid hJ6
              have HC6 := Lib.hid (HS4.out.keep hk6)
              have hz6 := hk6.1
              clear hJ6 hk6
              gi_wp2
              go_roundw
              case rel => exact ⟨i + 1, j + 1, pre ++ [⟨(x, y), HOK.out⟩], by omega, by omega, by first | rfl | go_num, by first | rfl | go_num, HQ, HJ6, HC6, by omega⟩
              case measure => simp [intOf]; omega
            · have HJx6 := Lib.hid hJx6
              clear hJx6
              gi_wp2
              refine bodyPost_ret (results_none rfl _ _ _) rfl ?_
              exact ⟨⟨_, rfl⟩, .inr ⟨pre ++ [⟨(x, y), HOK.out⟩], ⟨_, HQ.out.symm⟩, HJx6.out⟩⟩
      · obtain rfl : j = nb := by omega
        have HDR : Hid (b.drop j = []) := List.drop_eq_nil_of_le (by have := HC.out.lb.len; omega)
        have hd3 : ((j : Int) == (j : Int)) = true := by simp
        gi_wp2_with fail
        generalize hw1 : World.alloc (World.alloc wr _) _ = w1
        have HT1 : Hid (TwoB wr w1 Tryd.zeroCells81 Tryd.zeroCells81) := by show TwoB _ _ _ _; rw [← hw1]; exact TwoB.new _ _ _
        have HC1 := Lib.hid (HC.out.keep (Keep3.of_below HT1.out.b hB' hba' hbb'))
        clear hw1 hpa hpb
        have hpa := HC1.out.pa
        have hpb := HC1.out.pb
        have HOK : Hid (OkC x ∧ OkC (kp x.p x.n)) := ⟨HOX.out, HOX.out.2, HOX.out.2⟩
        have HI1 : Hid ((Tryd.prog.info? 81).map (·.size) = some (cgL x).toArray.size) := by show _ = _; rw [List.size_toArray]; exact info_c HOK.out.1
        have HI1s : Hid (65 = (cgL x).toArray.size) := by show _ = _; rw [List.size_toArray]; exact (cgL_length HOK.out.1).symm
        have HI2 : Hid ((Tryd.prog.info? 81).map (·.size) = some (cgL (kp x.p x.n)).toArray.size) := by show _ = _; rw [List.size_toArray]; exact info_c HOK.out.2
        have HI2s : Hid (65 = (cgL (kp x.p x.n)).toArray.size) := by show _ = _; rw [List.size_toArray]; exact (cgL_length HOK.out.2).symm
        refine wpIn_wide.2 ?_
        go_quiet (fail)
        have hbq : Below w1.heap.size w1 (w1.drewN nq) := ⟨rfl, rfl, rfl, Nat.le_refl _, fun _ _ => rfl⟩
        have HT2 := Lib.hid (HT1.out.next hbq)
        clear hbq
        generalize World.drewN w1 nq = w2 at HT2 ⊢
        have HC2 := Lib.hid (HC.out.keep (Keep3.of_below HT2.out.b hB' hba' hbb'))
        have HT2d := Lib.hid (HT2.out.next ((Below.refl w2.heap.size w2).drew))
        have HC2d := Lib.hid (HC.out.keep (Keep3.of_below HT2d.out.b hB' hba' hbb'))
        have hz2 := HT2.out.size
        have hB2 : B ≤ w2.drew.heap.size := by show B ≤ w2.heap.size; omega
        have hba2 : ba < w2.drew.heap.size := by show ba < w2.heap.size; omega
        have hbb2 : bb < w2.drew.heap.size := by show bb < w2.heap.size; omega
        gi_wp2_with fail
        refine wpIn_wide.2 ?_
        refine wp_region_held_drew (S := fun w' => SbIn w' B ba bb (some ⟨g1, o1, none⟩) na ca a spb j cb b) (by kernel_rfl) HC2d.out (fun hHeld => ?_)
        refine wpAnyH_take (i := 0) (oi := _) (v := ?v0n37) rfl (by kernel_rfl) (by kernel_rfl) (by kernel_rfl) (fun _ _ _ h => h) (Or.inl ⟨by rfl, ?hy0n37⟩) (by assumption) ?rest0n37
        case hy0n37 =>
          intro w' hSw
          have h1 := hSw.pa
          go_simp
          try with_reducible rfl
        try simp only [Act.put, List.getElem_toArray, List.getElem_cons_succ, List.getElem_cons_zero, List.setIfInBounds_toArray, List.set_cons_zero, List.set_cons_succ]
        refine wpAnyH_take (i := 1) (oi := _) (v := ?v1n38) rfl (by kernel_rfl) (by kernel_rfl) (by kernel_rfl) (fun _ _ _ h => h) (Or.inl ⟨by rfl, ?hy1n38⟩) (by assumption) ?rest1n38
        case hy1n38 =>
          intro w' hSw
          go_simp
          try with_reducible rfl
        try simp only [Act.put, List.getElem_toArray, List.getElem_cons_succ, List.getElem_cons_zero, List.setIfInBounds_toArray, List.set_cons_zero, List.set_cons_succ]
        refine wpAnyH_take (i := 2) (oi := _) (v := ?v2n39) rfl (by kernel_rfl) (by kernel_rfl) (by kernel_rfl) (fun _ _ _ h => h) (Or.inl ⟨by rfl, ?hy2n39⟩) (by assumption) ?rest2n39
        case hy2n39 =>
          intro w' hSw
          go_simp
          try with_reducible rfl
        try simp only [Act.put, List.getElem_toArray, List.getElem_cons_succ, List.getElem_cons_zero, List.setIfInBounds_toArray, List.set_cons_zero, List.set_cons_succ]
        refine' wpAnyH_take (i := 3) (oi := _) (v := _) rfl (by kernel_rfl) (by kernel_rfl) (by kernel_rfl) (fun _ _ _ h => h) (yieldsIf_load_mid (by rfl) _ _ rfl _ _ rfl _ _ ?hS3n40 Tryd.underlying81 rfl (info_c HOX.out)) (by assumption) ?rest3n40
        case hS3n40 =>
          intro w' hSw
          exact (hSw.la.at HX.out).2
        try simp only [Act.put, List.getElem_toArray, List.getElem_cons_succ, List.getElem_cons_zero, List.setIfInBounds_toArray, List.set_cons_zero, List.set_cons_succ]
        refine wpAnyH_take (i := 4) (oi := _) (v := ?v4n41) rfl (by kernel_rfl) (by kernel_rfl) (by kernel_rfl) (fun _ _ _ h => h) (Or.inl ⟨by rfl, ?hy4n41⟩) (by assumption) ?rest4n41
        case hy4n41 =>
          intro w' hSw
          have h1 := hSw.pa
          go_simp
          try with_reducible rfl
        try simp only [Act.put, List.getElem_toArray, List.getElem_cons_succ, List.getElem_cons_zero, List.setIfInBounds_toArray, List.set_cons_zero, List.set_cons_succ]
        refine wpAnyH_take (i := 5) (oi := _) (v := ?v5n42) rfl (by kernel_rfl) (by kernel_rfl) (by kernel_rfl) (fun _ _ _ h => h) (Or.inl ⟨by rfl, ?hy5n42⟩) (by assumption) ?rest5n42
        case hy5n42 =>
          intro w' hSw
          go_simp
          try with_reducible rfl
        try simp only [Act.put, List.getElem_toArray, List.getElem_cons_succ, List.getElem_cons_zero, List.setIfInBounds_toArray, List.set_cons_zero, List.set_cons_succ]
        refine wpAnyH_take (i := 6) (oi := _) (v := ?v6n43) rfl (by kernel_rfl) (by kernel_rfl) (by kernel_rfl) (fun _ _ _ h => h) (Or.inl ⟨by rfl, ?hy6n43⟩) (by assumption) ?rest6n43
        case hy6n43 =>
          intro w' hSw
          go_simp
          try with_reducible rfl
        try simp only [Act.put, List.getElem_toArray, List.getElem_cons_succ, List.getElem_cons_zero, List.setIfInBounds_toArray, List.set_cons_zero, List.set_cons_succ]
        refine wpAnyH_take (i := 7) (oi := _) (v := ?v7n44) rfl (by kernel_rfl) (by kernel_rfl) (by kernel_rfl) (fun _ _ _ h => h) (Or.inl ⟨by rfl, ?hy7n44⟩) (by assumption) ?rest7n44
        case hy7n44 =>
          intro w' hSw
          go_simp
          try with_reducible rfl
        try simp only [Act.put, List.getElem_toArray, List.getElem_cons_succ, List.getElem_cons_zero, List.setIfInBounds_toArray, List.set_cons_zero, List.set_cons_succ]
        refine wpAnyH_take (i := 8) (oi := _) (v := ?v8n45) rfl (by kernel_rfl) (by kernel_rfl) (by kernel_rfl) (fun _ _ _ h => h) (Or.inl ⟨by rfl, ?hy8n45⟩) (by assumption) ?rest8n45
        case hy8n45 =>
          intro w' hSw
          have h1 := rng_p (hSw.la.at HX.out).2
          go_simp
          try with_reducible rfl
        try simp only [Act.put, List.getElem_toArray, List.getElem_cons_succ, List.getElem_cons_zero, List.setIfInBounds_toArray, List.set_cons_zero, List.set_cons_succ]
        refine wpAnyH_take (i := 9) (oi := _) (v := ?v9n46) rfl (by kernel_rfl) (by kernel_rfl) (by kernel_rfl) (fun _ _ _ h => h) (Or.inl ⟨by rfl, ?hy9n46⟩) (by assumption) ?rest9n46
        case hy9n46 =>
          intro w' hSw
          have h1 := hSw.pa
          go_simp
          try with_reducible rfl
        try simp only [Act.put, List.getElem_toArray, List.getElem_cons_succ, List.getElem_cons_zero, List.setIfInBounds_toArray, List.set_cons_zero, List.set_cons_succ]
        refine wpAnyH_take (i := 10) (oi := _) (v := ?v10n47) rfl (by kernel_rfl) (by kernel_rfl) (by kernel_rfl) (fun _ _ _ h => h) (Or.inl ⟨by rfl, ?hy10n47⟩) (by assumption) ?rest10n47
        case hy10n47 =>
          intro w' hSw
          go_simp
          try with_reducible rfl
        try simp only [Act.put, List.getElem_toArray, List.getElem_cons_succ, List.getElem_cons_zero, List.setIfInBounds_toArray, List.set_cons_zero, List.set_cons_succ]
        refine wpAnyH_take (i := 11) (oi := _) (v := ?v11n48) rfl (by kernel_rfl) (by kernel_rfl) (by kernel_rfl) (fun _ _ _ h => h) (Or.inl ⟨by rfl, ?hy11n48⟩) (by assumption) ?rest11n48
        case hy11n48 =>
          intro w' hSw
          go_simp
          try with_reducible rfl
        try simp only [Act.put, List.getElem_toArray, List.getElem_cons_succ, List.getElem_cons_zero, List.setIfInBounds_toArray, List.set_cons_zero, List.set_cons_succ]
        refine wpAnyH_take (i := 12) (oi := _) (v := ?v12n49) rfl (by kernel_rfl) (by kernel_rfl) (by kernel_rfl) (fun _ _ _ h => h) (Or.inl ⟨by rfl, ?hy12n49⟩) (by assumption) ?rest12n49
        case hy12n49 =>
          intro w' hSw
          go_simp
          try with_reducible rfl
        try simp only [Act.put, List.getElem_toArray, List.getElem_cons_succ, List.getElem_cons_zero, List.setIfInBounds_toArray, List.set_cons_zero, List.set_cons_succ]
        refine' wpAnyH_take (i := 13) (oi := _) (v := _) rfl (by kernel_rfl) (by kernel_rfl) (by kernel_rfl) (fun _ _ _ h => h) (yieldsIf_load_mid (by rfl) _ _ rfl _ _ rfl _ _ ?hS13n50 Tryd.underlying28 rfl (info_d HOX.out.2)) (by assumption) ?rest13n50
        case hS13n50 =>
          intro w' hSw
          exact rng_n (hSw.la.at HX.out).2 HOX.out
        try simp only [Act.put, List.getElem_toArray, List.getElem_cons_succ, List.getElem_cons_zero, List.setIfInBounds_toArray, List.set_cons_zero, List.set_cons_succ]
        refine wpAnyH_ready (rs := [14]) (by kernel_rfl) (by simp) (AllReadyH.cons (o := _) rfl (fun K hK => ?_) AllReadyH.nil)
        go_simp
        with_reducible refine (kept_any x.p x.n _ HDN.out).mono ?_
        rintro e w3 ⟨rfl, hb3⟩
        go_wp2_with fail
        refine hK.out _ _ (HC2d.out.keep (Keep3.of_below hb3 hB2 hba2 hbb2)) (fun hHeld => ?_)
        clear hK K
        try simp only [Act.put, List.getElem_toArray, List.getElem_cons_succ, List.getElem_cons_zero, List.setIfInBounds_toArray, List.set_cons_zero, List.set_cons_succ]
        have HT3 := Lib.hid (HT2d.out.next hb3)
        clear hb3
        refine wpAnyH_ready (rs := [15]) (by kernel_rfl) (by simp) (AllReadyH.cons (o := _) rfl (fun K hK => ?_) AllReadyH.nil)
        rw [if_pos (by rfl)]
        refine wp_store_row 81 _ _ rfl (wr.heap.size) _ rfl rfl 81 Tryd.zeroCells81 HT3.out.x HI1.out ((rfl : (Tryd.zeroCells81).size = 65).trans HI1s.out) (cgA_one x) ?_
        have HT4 := Lib.hid (HT3.out.setx (cgL x).toArray)
        generalize World.setRow _ _ _ = w4 at HT4 ⊢
        have HS4 := Lib.hid (HC.out.keep (Keep3.of_below HT4.out.b hB' hba' hbb'))
        refine hK.out _ _ HS4.out (fun hHeld => ?_)
        clear hK K
        try simp only [Act.put, List.getElem_toArray, List.getElem_cons_succ, List.getElem_cons_zero, List.setIfInBounds_toArray, List.set_cons_zero, List.set_cons_succ]
        refine wpAnyH_ready (rs := [16]) (by kernel_rfl) (by simp) (AllReadyH.cons (o := _) rfl (fun K hK => ?_) AllReadyH.nil)
        rw [if_pos (by rfl)]
        refine wp_store_row 81 _ _ rfl (wr.heap.size + 1) _ rfl rfl 81 Tryd.zeroCells81 HT4.out.y HI2.out ((rfl : (Tryd.zeroCells81).size = 65).trans HI2s.out) (cgA_one (kp x.p x.n)) ?_
        have HT5 := Lib.hid (HT4.out.sety (cgL (kp x.p x.n)).toArray)
        generalize World.setRow _ _ _ = w5 at HT5 ⊢
        clear HS4
        have HS4 := Lib.hid (HC.out.keep (Keep3.of_below HT5.out.b hB' hba' hbb'))
        refine hK.out _ _ HS4.out (fun hHeld => ?_)
        clear hK K
        try simp only [Act.put, List.getElem_toArray, List.getElem_cons_succ, List.getElem_cons_zero, List.setIfInBounds_toArray, List.set_cons_zero, List.set_cons_succ]
        refine wpAnyH_done (by kernel_rfl) ?_ _
        have HQ := Lib.hid (sbs_go HS.out (sbs_A HX.out (.inl HDR.out)) HOK.out)
        obtain ⟨fn, tmps, assign, body, hy, hR⟩ := HY.out pre ⟨(x, kp x.p x.n), HOK.out⟩ w5 (HJ.out pre wr w5 HJr.out HT5.out.b) (by rw [HQ.out, List.map_append, List.length_append, List.length_append]; simp; omega)
        simp only [encP] at hy
        gi_wp2_with (first
          | (refine wpListIn_load_rowS rfl 81 _ rfl (wr.heap.size + 1) rfl _ _ _ _ HT5.out.y Tryd.underlying81 rfl HI2.out ?_)
          | (refine wpListIn_load_rowS rfl 81 _ rfl wr.heap.size rfl _ _ _ _ HT5.out.x Tryd.underlying81 rfl HI1.out ?_))
        refine hR.mono ?_
        have hz5 := HT5.out.size
        clear hR hy
        rintro e W6 (⟨rfl, hJ6, hk6⟩ | ⟨rfl, hJx6⟩)
        · have HJ6 := Lib.hid hJ6
          have HC6 := Lib.hid (HS4.out.keep hk6)
          have hz6 := hk6.1
          clear hJ6 hk6
          gi_wp2
          go_roundw
          case rel => exact ⟨i + 1, j, pre ++ [⟨(x, kp x.p x.n), HOK.out⟩], by omega, by omega, by first | rfl | go_num, by first | rfl | go_num, HQ, HJ6, HC6, by omega⟩
          case measure => simp [intOf]; omega
        · have HJx6 := Lib.hid hJx6
          clear hJx6
          gi_wp2
          refine bodyPost_ret (results_none rfl _ _ _) rfl ?_
          exact ⟨⟨_, rfl⟩, .inr ⟨pre ++ [⟨(x, kp x.p x.n), HOK.out⟩], ⟨_, HQ.out.symm⟩, HJx6.out⟩⟩
    · obtain rfl : i = na := by omega
      have HDR : Hid (a.drop i = []) := List.drop_eq_nil_of_le (by have := HC.out.la.len; omega)
      have hd1 : decide ((i : Int) < (i : Int)) = false := by simp
      by_cases hjb : j < nb
      · have hd2 : decide ((j : Int) < (nb : Int)) = true := by simp; omega
        have hd3 : ((j : Int) == (nb : Int)) = false := by simp; omega
        have hd4 : ((i : Int) == (i : Int)) = true := by simp
        have p4 : (j : Int) < (nb : Int) := by omega
        obtain ⟨g2, o2, rfl, -, -, -⟩ := HC.out.lb.cells (by omega)
        obtain ⟨y, hy⟩ : ∃ y, b[j]? = some y := ⟨b[j]'(by have := HC.out.lb.len; omega), List.getElem?_eq_getElem _⟩
        have HOY := Lib.hid (HC.out.lb.ok y (List.mem_of_getElem? hy))
        have HYy := Lib.hid hy; clear hy
        have HDO := Lib.hid HOY.out.1
        gi_wp2_with fail
        generalize hw1 : World.alloc (World.alloc wr _) _ = w1
        have HT1 : Hid (TwoB wr w1 Tryd.zeroCells81 Tryd.zeroCells81) := by show TwoB _ _ _ _; rw [← hw1]; exact TwoB.new _ _ _
        have HC1 := Lib.hid (HC.out.keep (Keep3.of_below HT1.out.b hB' hba' hbb'))
        clear hw1 hpa hpb
        have hpa := HC1.out.pa
        have hpb := HC1.out.pb
        have HOK : Hid (OkC (kp y.p y.o) ∧ OkC y) := ⟨⟨HOY.out.1, HOY.out.1⟩, HOY.out⟩
        have HI1 : Hid ((Tryd.prog.info? 81).map (·.size) = some (cgL (kp y.p y.o)).toArray.size) := by show _ = _; rw [List.size_toArray]; exact info_c HOK.out.1
        have HI1s : Hid (65 = (cgL (kp y.p y.o)).toArray.size) := by show _ = _; rw [List.size_toArray]; exact (cgL_length HOK.out.1).symm
        have HI2 : Hid ((Tryd.prog.info? 81).map (·.size) = some (cgL y).toArray.size) := by show _ = _; rw [List.size_toArray]; exact info_c HOK.out.2
        have HI2s : Hid (65 = (cgL y).toArray.size) := by show _ = _; rw [List.size_toArray]; exact (cgL_length HOK.out.2).symm
        refine wpIn_wide.2 ?_
        go_quiet (fail)
        have hbq : Below w1.heap.size w1 (w1.drewN nq) := ⟨rfl, rfl, rfl, Nat.le_refl _, fun _ _ => rfl⟩
        have HT2 := Lib.hid (HT1.out.next hbq)
        clear hbq
        generalize World.drewN w1 nq = w2 at HT2 ⊢
        clear HT1 HC1 hpa hpb
        clear w1
        rename World => w1
        have HT1 := HT2
        clear HT2
        have HC1 := Lib.hid (HC.out.keep (Keep3.of_below HT1.out.b hB' hba' hbb'))
        have hpa := HC1.out.pa
        have hpb := HC1.out.pb
        gi_wp2_with fail
        refine wpIn_wide.2 ?_
        go_quiet (fail)
        have hbq : Below w1.heap.size w1 (w1.drewN nq) := ⟨rfl, rfl, rfl, Nat.le_refl _, fun _ _ => rfl⟩
        have HT2 := Lib.hid (HT1.out.next hbq)
        clear hbq
        generalize World.drewN w1 nq = w2 at HT2 ⊢
        have HC2 := Lib.hid (HC.out.keep (Keep3.of_below HT2.out.b hB' hba' hbb'))
        have HT2d := Lib.hid (HT2.out.next ((Below.refl w2.heap.size w2).drew))
        have HC2d := Lib.hid (HC.out.keep (Keep3.of_below HT2d.out.b hB' hba' hbb'))
        have hz2 := HT2.out.size
        have hB2 : B ≤ w2.drew.heap.size := by show B ≤ w2.heap.size; omega
        have hba2 : ba < w2.drew.heap.size := by show ba < w2.heap.size; omega
        have hbb2 : bb < w2.drew.heap.size := by show bb < w2.heap.size; omega
        gi_wp2_with fail
        refine wpIn_wide.2 ?_
        refine wp_region_held_drew (S := fun w' => SbIn w' B ba bb spa i ca a (some ⟨g2, o2, none⟩) nb cb b) (by kernel_rfl) HC2d.out (fun hHeld => ?_)
        refine wpAnyH_take (i := 0) (oi := _) (v := ?v0n51) rfl (by kernel_rfl) (by kernel_rfl) (by kernel_rfl) (fun _ _ _ h => h) (Or.inl ⟨by rfl, ?hy0n51⟩) (by assumption) ?rest0n51
        case hy0n51 =>
          intro w' hSw
          have h1 := hSw.pb
          go_simp
          try with_reducible rfl
        try simp only [Act.put, List.getElem_toArray, List.getElem_cons_succ, List.getElem_cons_zero, List.setIfInBounds_toArray, List.set_cons_zero, List.set_cons_succ]
        refine wpAnyH_take (i := 1) (oi := _) (v := ?v1n52) rfl (by kernel_rfl) (by kernel_rfl) (by kernel_rfl) (fun _ _ _ h => h) (Or.inl ⟨by rfl, ?hy1n52⟩) (by assumption) ?rest1n52
        case hy1n52 =>
          intro w' hSw
          go_simp
          try with_reducible rfl
        try simp only [Act.put, List.getElem_toArray, List.getElem_cons_succ, List.getElem_cons_zero, List.setIfInBounds_toArray, List.set_cons_zero, List.set_cons_succ]
        refine wpAnyH_take (i := 2) (oi := _) (v := ?v2n53) rfl (by kernel_rfl) (by kernel_rfl) (by kernel_rfl) (fun _ _ _ h => h) (Or.inl ⟨by rfl, ?hy2n53⟩) (by assumption) ?rest2n53
        case hy2n53 =>
          intro w' hSw
          go_simp
          try with_reducible rfl
        try simp only [Act.put, List.getElem_toArray, List.getElem_cons_succ, List.getElem_cons_zero, List.setIfInBounds_toArray, List.set_cons_zero, List.set_cons_succ]
        refine wpAnyH_take (i := 3) (oi := _) (v := ?v3n54) rfl (by kernel_rfl) (by kernel_rfl) (by kernel_rfl) (fun _ _ _ h => h) (Or.inl ⟨by rfl, ?hy3n54⟩) (by assumption) ?rest3n54
        case hy3n54 =>
          intro w' hSw
          go_simp
          try with_reducible rfl
        try simp only [Act.put, List.getElem_toArray, List.getElem_cons_succ, List.getElem_cons_zero, List.setIfInBounds_toArray, List.set_cons_zero, List.set_cons_succ]
        refine wpAnyH_take (i := 4) (oi := _) (v := ?v4n55) rfl (by kernel_rfl) (by kernel_rfl) (by kernel_rfl) (fun _ _ _ h => h) (Or.inl ⟨by rfl, ?hy4n55⟩) (by assumption) ?rest4n55
        case hy4n55 =>
          intro w' hSw
          have h1 := rng_p (hSw.lb.at HYy.out).2
          go_simp
          try with_reducible rfl
        try simp only [Act.put, List.getElem_toArray, List.getElem_cons_succ, List.getElem_cons_zero, List.setIfInBounds_toArray, List.set_cons_zero, List.set_cons_succ]
        refine wpAnyH_take (i := 5) (oi := _) (v := ?v5n56) rfl (by kernel_rfl) (by kernel_rfl) (by kernel_rfl) (fun _ _ _ h => h) (Or.inl ⟨by rfl, ?hy5n56⟩) (by assumption) ?rest5n56
        case hy5n56 =>
          intro w' hSw
          have h1 := hSw.pb
          go_simp
          try with_reducible rfl
        try simp only [Act.put, List.getElem_toArray, List.getElem_cons_succ, List.getElem_cons_zero, List.setIfInBounds_toArray, List.set_cons_zero, List.set_cons_succ]
        refine wpAnyH_take (i := 6) (oi := _) (v := ?v6n57) rfl (by kernel_rfl) (by kernel_rfl) (by kernel_rfl) (fun _ _ _ h => h) (Or.inl ⟨by rfl, ?hy6n57⟩) (by assumption) ?rest6n57
        case hy6n57 =>
          intro w' hSw
          go_simp
          try with_reducible rfl
        try simp only [Act.put, List.getElem_toArray, List.getElem_cons_succ, List.getElem_cons_zero, List.setIfInBounds_toArray, List.set_cons_zero, List.set_cons_succ]
        refine wpAnyH_take (i := 7) (oi := _) (v := ?v7n58) rfl (by kernel_rfl) (by kernel_rfl) (by kernel_rfl) (fun _ _ _ h => h) (Or.inl ⟨by rfl, ?hy7n58⟩) (by assumption) ?rest7n58
        case hy7n58 =>
          intro w' hSw
          go_simp
          try with_reducible rfl
        try simp only [Act.put, List.getElem_toArray, List.getElem_cons_succ, List.getElem_cons_zero, List.setIfInBounds_toArray, List.set_cons_zero, List.set_cons_succ]
        refine wpAnyH_take (i := 8) (oi := _) (v := ?v8n59) rfl (by kernel_rfl) (by kernel_rfl) (by kernel_rfl) (fun _ _ _ h => h) (Or.inl ⟨by rfl, ?hy8n59⟩) (by assumption) ?rest8n59
        case hy8n59 =>
          intro w' hSw
          go_simp
          try with_reducible rfl
        try simp only [Act.put, List.getElem_toArray, List.getElem_cons_succ, List.getElem_cons_zero, List.setIfInBounds_toArray, List.set_cons_zero, List.set_cons_succ]
        refine' wpAnyH_take (i := 9) (oi := _) (v := _) rfl (by kernel_rfl) (by kernel_rfl) (by kernel_rfl) (fun _ _ _ h => h) (yieldsIf_load_mid (by rfl) _ _ rfl _ _ rfl _ _ ?hS9n60 Tryd.underlying28 rfl (info_d HOY.out.1)) (by assumption) ?rest9n60
        case hS9n60 =>
          intro w' hSw
          exact rng_o (hSw.lb.at HYy.out).2
        try simp only [Act.put, List.getElem_toArray, List.getElem_cons_succ, List.getElem_cons_zero, List.setIfInBounds_toArray, List.set_cons_zero, List.set_cons_succ]
        refine wpAnyH_take (i := 11) (oi := _) (v := ?v11n61) rfl (by kernel_rfl) (by kernel_rfl) (by kernel_rfl) (fun _ _ _ h => h) (Or.inl ⟨by rfl, ?hy11n61⟩) (by assumption) ?rest11n61
        case hy11n61 =>
          intro w' hSw
          have h1 := hSw.pb
          go_simp
          try with_reducible rfl
        try simp only [Act.put, List.getElem_toArray, List.getElem_cons_succ, List.getElem_cons_zero, List.setIfInBounds_toArray, List.set_cons_zero, List.set_cons_succ]
        refine wpAnyH_take (i := 12) (oi := _) (v := ?v12n62) rfl (by kernel_rfl) (by kernel_rfl) (by kernel_rfl) (fun _ _ _ h => h) (Or.inl ⟨by rfl, ?hy12n62⟩) (by assumption) ?rest12n62
        case hy12n62 =>
          intro w' hSw
          go_simp
          try with_reducible rfl
        try simp only [Act.put, List.getElem_toArray, List.getElem_cons_succ, List.getElem_cons_zero, List.setIfInBounds_toArray, List.set_cons_zero, List.set_cons_succ]
        refine wpAnyH_take (i := 13) (oi := _) (v := ?v13n63) rfl (by kernel_rfl) (by kernel_rfl) (by kernel_rfl) (fun _ _ _ h => h) (Or.inl ⟨by rfl, ?hy13n63⟩) (by assumption) ?rest13n63
        case hy13n63 =>
          intro w' hSw
          go_simp
          try with_reducible rfl
        try simp only [Act.put, List.getElem_toArray, List.getElem_cons_succ, List.getElem_cons_zero, List.setIfInBounds_toArray, List.set_cons_zero, List.set_cons_succ]
        refine' wpAnyH_take (i := 14) (oi := _) (v := _) rfl (by kernel_rfl) (by kernel_rfl) (by kernel_rfl) (fun _ _ _ h => h) (yieldsIf_load_mid (by rfl) _ _ rfl _ _ rfl _ _ ?hS14n64 Tryd.underlying81 rfl (info_c HOY.out)) (by assumption) ?rest14n64
        case hS14n64 =>
          intro w' hSw
          exact (hSw.lb.at HYy.out).2
        try simp only [Act.put, List.getElem_toArray, List.getElem_cons_succ, List.getElem_cons_zero, List.setIfInBounds_toArray, List.set_cons_zero, List.set_cons_succ]
        refine wpAnyH_ready (rs := [10]) (by kernel_rfl) (by simp) (AllReadyH.cons (o := _) rfl (fun K hK => ?_) AllReadyH.nil)
        go_simp
        with_reducible refine (kept_any y.p y.o _ HDO.out).mono ?_
        rintro e w3 ⟨rfl, hb3⟩
        go_wp2_with fail
        refine hK.out _ _ (HC2d.out.keep (Keep3.of_below hb3 hB2 hba2 hbb2)) (fun hHeld => ?_)
        clear hK K
        try simp only [Act.put, List.getElem_toArray, List.getElem_cons_succ, List.getElem_cons_zero, List.setIfInBounds_toArray, List.set_cons_zero, List.set_cons_succ]
        have HT3 := Lib.hid (HT2d.out.next hb3)
        clear hb3
        refine wpAnyH_ready (rs := [15]) (by kernel_rfl) (by simp) (AllReadyH.cons (o := _) rfl (fun K hK => ?_) AllReadyH.nil)
        rw [if_pos (by rfl)]
        refine wp_store_row 81 _ _ rfl (wr.heap.size) _ rfl rfl 81 Tryd.zeroCells81 HT3.out.x HI1.out ((rfl : (Tryd.zeroCells81).size = 65).trans HI1s.out) (cgA_one (kp y.p y.o)) ?_
        have HT4 := Lib.hid (HT3.out.setx (cgL (kp y.p y.o)).toArray)
        generalize World.setRow _ _ _ = w4 at HT4 ⊢
        have HS4 := Lib.hid (HC.out.keep (Keep3.of_below HT4.out.b hB' hba' hbb'))
        refine hK.out _ _ HS4.out (fun hHeld => ?_)
        clear hK K
        try simp only [Act.put, List.getElem_toArray, List.getElem_cons_succ, List.getElem_cons_zero, List.setIfInBounds_toArray, List.set_cons_zero, List.set_cons_succ]
        refine wpAnyH_ready (rs := [16]) (by kernel_rfl) (by simp) (AllReadyH.cons (o := _) rfl (fun K hK => ?_) AllReadyH.nil)
        rw [if_pos (by rfl)]
        refine wp_store_row 81 _ _ rfl (wr.heap.size + 1) _ rfl rfl 81 Tryd.zeroCells81 HT4.out.y HI2.out ((rfl : (Tryd.zeroCells81).size = 65).trans HI2s.out) (cgA_one y) ?_
        have HT5 := Lib.hid (HT4.out.sety (cgL y).toArray)
        generalize World.setRow _ _ _ = w5 at HT5 ⊢
        clear HS4
        have HS4 := Lib.hid (HC.out.keep (Keep3.of_below HT5.out.b hB' hba' hbb'))
        refine hK.out _ _ HS4.out (fun hHeld => ?_)
        clear hK K
        try simp only [Act.put, List.getElem_toArray, List.getElem_cons_succ, List.getElem_cons_zero, List.setIfInBounds_toArray, List.set_cons_zero, List.set_cons_succ]
        refine wpAnyH_done (by kernel_rfl) ?_ _
        have HQ := Lib.hid (sbs_go HS.out (sbs_B HYy.out (.inl HDR.out)) HOK.out)
        obtain ⟨fn, tmps, assign, body, hy, hR⟩ := HY.out pre ⟨(kp y.p y.o, y), HOK.out⟩ w5 (HJ.out pre wr w5 HJr.out HT5.out.b) (by rw [HQ.out, List.map_append, List.length_append, List.length_append]; simp; omega)
        simp only [encP] at hy
        gi_wp2_with (first
          | (refine wpListIn_load_rowS rfl 81 _ rfl (wr.heap.size + 1) rfl _ _ _ _ HT5.out.y Tryd.underlying81 rfl HI2.out ?_)
          | (refine wpListIn_load_rowS rfl 81 _ rfl wr.heap.size rfl _ _ _ _ HT5.out.x Tryd.underlying81 rfl HI1.out ?_))
        refine hR.mono ?_
        have hz5 := HT5.out.size
        clear hR hy
        rintro e W6 (⟨rfl, hJ6, hk6⟩ | ⟨rfl, hJx6⟩)
        · have HJ6 := Lib.hid hJ6
          have HC6 := Lib.hid (HS4.out.keep hk6)
          have hz6 := hk6.1
          clear hJ6 hk6
          gi_wp2
          go_roundw
          case rel => exact ⟨i, j + 1, pre ++ [⟨(kp y.p y.o, y), HOK.out⟩], by omega, by omega, by first | rfl | go_num, by first | rfl | go_num, HQ, HJ6, HC6, by omega⟩
          case measure => simp [intOf]; omega
        · have HJx6 := Lib.hid hJx6
          clear hJx6
          gi_wp2
          refine bodyPost_ret (results_none rfl _ _ _) rfl ?_
          exact ⟨⟨_, rfl⟩, .inr ⟨pre ++ [⟨(kp y.p y.o, y), HOK.out⟩], ⟨_, HQ.out.symm⟩, HJx6.out⟩⟩
      · obtain rfl : j = nb := by omega
        have hd2 : decide ((j : Int) < (j : Int)) = false := by simp
        have HE : Hid (pre.map (·.1) = sbs a b) := by
          show _ = _
          have hdb : b.drop j = [] := List.drop_eq_nil_of_le (by have := HC.out.lb.len; omega)
          rw [HS.out, HDR.out, hdb, sbs_nil]; simp
        gi_wp2_with fail
        go_end0
        exact ⟨⟨_, rfl⟩, .inl ⟨pre, HE.out, HJr.out⟩⟩
end Go.Proofs.YtkookkhlgllneaaDoor
