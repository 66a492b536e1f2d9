/-
  The walks of slices.AppendSeq, Collect and Values at entries (conditions: digests of 32 bytes, at most 400000 entries).
-/
import Derived.Test.YtkookkhlgllneaaDoorMakV
import Derived.Test.YtkookkhlgllneaaDoorGc
namespace Go.Proofs.YtkookkhlgllneaaDoor
open Go.RowKit Go.Shelf
attribute [local go_sem] Oper.semAt_some

section
variable {F : Fence} {n : Nat} {ops : Array Oper} {rest : List Oper} {o : Oper} {a : Act} {w : World} {Q : Exit → Act → World → Prop}
theorem wpListIn_append_enV (hgd : o.guard = none) (s x : Operand)
    (ho : o.op = .call { callee := .builtin .append, args := #[s, x], argTypes := #[22, 22] }) (base : Nat) (v : Value) (l : List En) (k : Nat) (hn : k = l.length) (hs : a.eval s = v) (hown : OwnE w base v l)
    (g : Nat) (y : En) (hx : a.eval x = .slice (some ⟨g, 0, none⟩) 1 1) (hy : EnB w g y) (hok : OkE y) (hlen : k ≤ 1000000) (hbase : base ≤ w.heap.size)
    (h : ∀ sp cap w', Hid (OwnE w' base (.slice (some ⟨sp, 0, none⟩) (k + 1) cap) (l ++ [y])) → Hid (Below base w w') → Hid (w.grownBy w' v.ownBlock) → wpListIn F n Tryd.prog ops Q rest (a.put o.dst (.slice (some ⟨sp, 0, none⟩) (k + 1) cap)) w') : wpListIn F n Tryd.prog ops Q (o :: rest) a w := by
  subst hn
  obtain ⟨i0, hi0, hz0, hz1, hz2⟩ := info_parts infoE3
  refine wpListIn_append_own w hgd s x _ ho base _ i0 _ 33 48 Tryd.underlying22 hi0 hz0 hz1 hz2 rfl (by decide) v l.length _ hs hown.1 ⟨g, 0, none⟩ 1 1 (enL y) hx (by rw [enL_length hok]) ?_ (enL_one y) (by unfold maxLen; omega) (by omega) hbase ?_
  · intro j u hj
    rw [Addr.add_mid]
    exact hy.all j u hj
  · intro v' w' h1 h2 _
    obtain ⟨sp, cap, rfl⟩ := ownsRow_succ h1
    refine h sp cap w' ⟨by rw [rowsE_snoc, List.length_append]; exact h1, fun z hz => ?_⟩ ((Below.refl base w).grown h2 hbase (own_baseS hown.1)) h2
    rcases List.mem_append.1 hz with hz | hz
    · exact hown.2 z hz
    · rw [List.mem_singleton.1 hz]; exact hok
end
/-- the caller's cell between two rounds -/
structure AppIn (w : World) (pre : List EV) (W : World) : Prop where
  row : ∃ v, Boxed W w.heap.size 22 v ∧ W.ownsRow w.heap.size 70 33 v (unV pre).length (rowsE (unV pre)) ∧ True
  below : Below w.heap.size w W
  big : w.heap.size + 1 ≤ W.heap.size
theorem appIn_own (w : World) (B : Nat) (hB : w.heap.size ≤ B) : OwnFrom B (AppIn w) := fun pre X Y row h hg hrow =>
  ⟨(Own.from (holdsRow_own w.heap.size w.heap.size 22 70 33 (fun pre : List EV => (unV pre).length) (fun pre => rowsE (unV pre)) (fun _ _ => True)) B) pre X Y row h.row hg hrow,
   ownFrom_below (Nat.le_refl _) hB pre X Y row h.below hg hrow, Nat.le_trans h.big hg.size⟩
def EntAt (f : Nat → Array Value) (x : EV) (a' : Act) (W : World) : Prop := ∃ bx, EnB W bx x.1 ∧ a' = { tmps := f bx, defers := [] }
theorem entAt_own (f : EV → Nat → Array Value) (B : Nat) (x : EV) (a' : Act) : OwnFrom B (fun (_ : Unit) W => EntAt (f x) x a' W) := by
  rintro s X Y row ⟨bx, hx, e⟩ hg hrow
  have keep : ∀ k x, EnB X k x → EnB Y k x := fun k x h => (hg.block k (Array.getElem?_eq_some_iff.1 h).1 (fun e => by
    obtain ⟨_, o, ho, hc⟩ := hrow k e.symm
    rw [show X.heap[k]? = _ from h] at ho; cases ho; cases hc)).trans h
  exact ⟨bx, keep _ _ hx, e⟩
def appFr (w : World) (ba : Nat) (x : EV) (bx : Nat) : Array Value := #[.slice none 0 0, .func (.func 102) #[] #[.pointer (some ⟨ba, 0, none⟩)], .pointer (some ⟨w.heap.size, 0, none⟩), undef, .slice none 0 0, .pointer (some ⟨bx, 0, none⟩), .func (.func 102) #[] #[.pointer (some ⟨ba, 0, none⟩)], .agg (enL x.1).toArray, undef, undef, undef, undef, undef]
theorem keep3_putV {B ba : Nat} {w : World} {M : Nat} (hB : B ≤ M) (hba : ba < M) (W : World) (l : Nat) (o o' : Obj) (hl : M ≤ l) (_ : W.heap[l]? = some o) (_ : o.isCells = false) (_ : o.isWalk = false) : Keep3 B ba ba W (W.putObj l o') :=
  ⟨by simp, fun k hk => World.putObj_heap_other (by omega), World.putObj_heap_other (by omega), World.putObj_heap_other (by omega)⟩
theorem keep3_appendV {B ba b6 : Nat} {X Y : World} {row : Option Nat} {tmp : Obj} (hg : (X.alloc tmp).grownBy Y row) (hrow : ∀ k, row = some k → B ≤ k ∧ ba < k) (v : Value) (h1 : B ≤ b6) (h2 : ba < b6) (h4 : B ≤ X.heap.size) (h5 : ba < X.heap.size) :
    Keep3 B ba ba X (Y.setCell ⟨b6, 0, none⟩ v) := by
  have hs := hg.size
  rw [World.size_alloc] at hs
  have go : ∀ k, k < X.heap.size → k ≠ b6 → some k ≠ row → (Y.setCell ⟨b6, 0, none⟩ v).heap[k]? = X.heap[k]? := fun k hk hk6 hkr =>
    (Below.heap_setCell Y ⟨b6, 0, none⟩ v k hk6).trans ((hg.block k (by rw [World.size_alloc]; omega) hkr).trans (Below.heap_alloc X tmp k hk))
  have hb := go ba h5 (by omega) (fun e => by have := (hrow ba e.symm).2; omega)
  exact ⟨by show _ ≤ (Y.heap.modify _ _).size; rw [Array.size_modify]; omega, fun k hk => go k (by omega) (by omega) (fun e => by have := (hrow k e.symm).1; omega), hb, hb⟩
set_option maxRecDepth 100000 in
set_option maxHeartbeats 4000000 in
theorem appendSeq_any (ba : Nat) (sp : Option Addr) (na ca : Nat) (a : List En) (B : Nat) (w : World) (hna : na ≤ 400000) (hB : B ≤ w.heap.size) (hba : ba < w.heap.size) (hc : VaIn w B ba sp na ca a) :
    Calls Tryd.prog 135 #[.slice none 0 0, .func (.func 102) #[] #[.pointer (some ⟨ba, 0, none⟩)]] w fun e w' => ∃ sp' cap', e = .returned (.slice sp' na cap') ∧ OwnE w' w.heap.size (.slice sp' na cap') a ∧ Below w.heap.size w w' := by
  have HC := Lib.hid hc; clear hc
  refine (callsIn_wide (n := 8)).1 ?_
  refine callsIn_of_wp_marks Tryd.func135 rfl trivial ?_ rfl
  simp only [Tryd.ntmps135, List.size_toArray, List.length_cons, List.length_nil, Nat.reduceAdd, Nat.reduceSub, Array.replicate_succ, Array.replicate_zero, List.push_toArray, List.append_toArray, List.nil_append, List.cons_append]
  gi_wp2_with fail
  generalize hw1 : World.alloc w _ = w1
  have hb1 : Below w.heap.size w w1 := by rw [← hw1]; exact (Below.refl _ w).alloc (Nat.le_refl _) _
  have hz1 : w1.heap.size = w.heap.size + 1 := by rw [← hw1]; simp
  have r2 : Boxed w1 w.heap.size 22 (.slice none 0 0) := by show w1.heap[_]? = _; rw [← hw1]; exact heap_alloc_new w _
  clear hw1
  have HSB : Hid (VaIn w1 B ba sp na ca a) := HC.out.keep (Keep3.of_below hb1 hB hba hba)
  have HIN : Hid (AppIn w [] w1) := ⟨⟨_, r2, World.ownsRow_nil _ _ _ _, trivial⟩, hb1, by omega⟩
  have HN : Hid (a.length = na) := HC.out.la.len
  have hz1a : w.heap.size + 1 ≤ w1.heap.size := by omega
  have hz1b : w1.heap.size ≤ w.heap.size + 1 := by omega
  clear r2 hb1 hz1
  have hI := appIn_own w w1.heap.size (by omega)
  have HIo := Lib.hid hI
  refine wpIn_rangeFunc_ownH (α := EV) rfl (by decide) (gf := 102) (lb := #[.pointer (some ⟨ba, 0, none⟩)]) rfl trivial (enters_of Tryd.func102 (by kernel_rfl) rfl)
    (vals_stops 7 (by decide) B ba sp na ca a (by omega) w1 (by omega) (by omega) HSB.out)
    Keep3.trans (keep3_putV (w := w) (by omega) (by omega)) (Below.refl _ _) (fun _ => rfl) (AppIn w) (fun _ _ _ => False) hI (fun _ _ _ _ _ h _ _ => h) HIN.out
    (fun q a' W => EntAt (appFr w ba q) q a' W)
    (fun q a' => entAt_own (appFr w ba) w1.heap.size q a') ?assign ?body ?done ?stop
  clear hI
  case assign =>
    intro l pre q W K hi hK
    have hbig := hi.big
    have HI1 : Hid ((Tryd.prog.info? 70).map (·.size) = some (enL q.1).toArray.size) := by show _ = _; rw [List.size_toArray]; exact info_e q.2
    have HI1s : Hid (33 = (enL q.1).toArray.size) := by show _ = _; rw [List.size_toArray]; exact (enL_length q.2).symm
    have HFI := Lib.hid hi; have HK := Lib.hid hK
    clear hi hK
    simp only [encV, List.zip_toArray, List.zip_cons_cons, List.zip_nil_right, List.zip_nil_left, List.foldl_toArray, List.foldl_cons, List.foldl_nil, List.setIfInBounds_toArray, List.set_cons_succ, List.set_cons_zero]
    gi_wp2_with (refine wpListIn_store_rowS rfl 70 _ _ rfl W.heap.size _ rfl rfl 70 _ (heap_alloc_new W _) HI1.out (by simpa using HI1s.out) (Array.all_eq_true_iff_forall_mem.2 (by simpa using enL_one q.1)) ?_; rw [setRow_new])
    have hbw : Below W.heap.size W (W.alloc (.cells (enL q.1).toArray 70)) := (Below.refl _ W).alloc (Nat.le_refl _) _
    exact HK.out _ _ ((KeepsOthers.alloc W _).from _) (Keep3.of_below hbw (by omega) (by omega) (by omega)) (HIo.out.alloc _ HFI.out) ⟨W.heap.size, EnB.new W q.1, rfl⟩
  case body =>
    rintro l pre q a' W hl ⟨r, hr⟩ hin ⟨bx, hx, rfl⟩ hlen
    have hbig := hin.big
    have HX := Lib.hid hx; have HFI := Lib.hid hin
    have hsx : bx < W.heap.size := (Array.getElem?_eq_some_iff.1 hx).1
    have HI1 : Hid ((Tryd.prog.info? 70).map (·.size) = some (enL q.1).toArray.size) := by show _ = _; rw [List.size_toArray]; exact info_e q.2
    obtain ⟨v, hv, hrow, -⟩ := hin.row
    have HV := Lib.hid hv; have HROW := Lib.hid hrow
    have hc6 := hv.cell
    have hf6 := hv.frozen
    obtain ⟨k, hk⟩ : ∃ k, k = (unV pre).length := ⟨_, rfl⟩
    have hkl : k ≤ 1000000 := by rw [hk, unV_length]; have h2 := HN.out; omega
    have HKK := Lib.hid hk
    have HOW := Lib.hid (show OwnE W w.heap.size v (unV pre) from ⟨hrow, unV_ok pre⟩)
    have hbase : w.heap.size ≤ W.heap.size := by omega
    clear hx hr hv hrow hk hin
    unfold appFr
    gi_wp2_with (first
      | (refine wpListIn_load_rowS rfl 70 _ rfl bx rfl _ _ _ _ HX.out Tryd.underlying70 rfl HI1.out ?_)
      | (refine wpListIn_slice_eqS rfl 22 1 [(0, .tmp 9)] rfl [(0, .agg (enL q.1).toArray)] rfl _ _ (sliceE _ q.1 q.2) ?_; have hz4 : EnB (W.alloc (.cells (enL q.1).toArray 70)) W.heap.size q.1 := (EnB.new W q.1); have ho4 : OwnE (W.alloc (.cells (enL q.1).toArray 70)) w.heap.size v (unV pre) := (HOW.out.below ((Below.refl _ _).alloc (Nat.le_refl _) _)); have HZ4 := Lib.hid hz4; have HO4 := Lib.hid ho4; clear hz4 ho4)
      | (refine wpListIn_append_enV rfl (.tmp 8) (.tmp 10) rfl w.heap.size v (unV pre) k HKK.out rfl HO4.out W.heap.size q.1 rfl HZ4.out q.2 hkl (by simp; omega) ?_; intro sp5 cap5 W5 HO5 HB5 HG5; have happ := HV.out.appended (by decide) HROW.out hbase (by omega : w.heap.size ≤ w.heap.size) HO5.out.1 HG5.out; have hc7 := happ.1.cell; have hf7 := happ.1.frozen; have HAPP := Lib.hid happ; clear happ))
    have hrw : ∀ j, v.ownBlock = some j → B ≤ j ∧ ba < j := by
      intro j hj
      have := own_baseS HROW.out j hj
      omega
    have hk4 := keep3_appendV HG5.out hrw (.slice (some ⟨sp5, 0, none⟩) (k + 1) cap5) (by omega : B ≤ w.heap.size) (by omega : ba < w.heap.size) (by omega) (by omega)
    obtain ⟨_, hp2, hp3, hp4, hp5⟩ := HAPP.out
    refine ⟨hp4.from _, hk4, ⟨_, hp2, ?_, trivial⟩, HFI.out.below.trans hp5, Nat.le_trans HFI.out.big hk4.1⟩
    rw [unV_snoc, List.length_append, ← HKK.out]
    have := hp3
    rw [List.length_append, ← HKK.out] at this
    exact this
  case done =>
    rintro D xs W hD hS hin hK
    obtain ⟨v, hv, hrow, -⟩ := hin.row
    have hlen : (unV xs).length = na := by rw [hS]; exact HN.out
    rw [hS] at hrow
    rw [show a.length = na from HN.out] at hrow
    obtain ⟨sp2, cap2, rfl⟩ := own_shapeS hrow
    have hc6 := hv.cell
    have HROW := Lib.hid hrow; have HFI := Lib.hid hin; have HKs := Lib.hid hK
    clear hin hrow hS hK hlen
    gi_wp2_with fail
    refine ⟨by simp, .inl ⟨_, _, rfl, run_takeDeferred HKs.out, ?_⟩⟩
    refine ⟨.slice sp2 na cap2, ?_, ?_⟩
    · simp [results, Tryd.f135, go_sem]
    · exact ⟨sp2, cap2, rfl, ⟨by rw [HN.out]; exact ownsRow_putObj HROW.out _ HKs.out rfl, HC.out.la.ok⟩, HFI.out.below.trans (belowK_b (w := w) (Nat.le_refl _) W D _ _ (by omega) HKs.out rfl rfl)⟩
  case stop =>
    rintro D c pre W hD hSp hout hK
    exact hout.elim
end Go.Proofs.YtkookkhlgllneaaDoor
