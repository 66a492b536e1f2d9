/-
  Laws: a slice cut from a place on, an append of many; the walks of the reference's put and insert (conditions: digests of 32 bytes, at most 400000 elements; a nil slice has no room).
-/
import Derived.Test.YtkookkhlgllneaaDoorGd
import Derived.Laws.AppendOwnNone
namespace Go.Proofs.YtkookkhlgllneaaDoor
open Go.RowKit

/-- where x[k:] begins -/
def slP (sz : Nat) (sp : Option Addr) (k cap : Nat) : Option Addr := if cap = k then sp else sp.map (·.add (k * sz))
set_option maxRecDepth 100000 in
theorem sizeOf_of {t : TypeId} {n : Nat} (h : (Tryd.prog.info? t).map (·.size) = some n) (w : World) : (sizeOf t).run Tryd.prog w = .ok n w := by
  cases hi : Tryd.prog.info? t with
  | none => rw [hi] at h; cases h
  | some i => rw [hi] at h; injection h with h; simp [sizeOf, typeInfo, hi, h]
theorem run_cut {t e : TypeId} {sz : Nat} (ht : Tryd.prog.underlying t = some (.slice e)) (he : (Tryd.prog.info? e).map (·.size) = some sz) (w : World) (sp : Option Addr) (n cap k : Nat) (hk : k ≤ n) :
    (Instr.slice t (.slice sp n cap) (some (.int .i64 k)) none none).run Tryd.prog w = .ok (.slice (slP sz sp k cap) (n - k) (cap - k)) w := by
  have h1 : (0 : Int) ≤ (k : Int) ∧ (k : Int) ≤ (n : Int) := ⟨by omega, by omega⟩
  simp [Instr.slice, Instr.sliceBounds, Instr.sliceBound, asIntOf, run_underlying ht, sizeOf_of he, hk, slP]
theorem yieldsIf_cut {t e : TypeId} {sz : Nat} (ht : Tryd.prog.underlying t = some (.slice e)) (he : (Tryd.prog.info? e).map (·.size) = some sz) {ops : Array Oper} {S : World → Prop} {op : Oper} {a : Act} (hw : Region.wanted op (yielded ops a.tmps) = true) (x lo : Operand) (ho : op.op = .slice t x (some lo) none none)
    (sp : Option Addr) (n cap k : Nat) (hx : a.eval x = .slice sp n cap) (hlo : a.eval lo = .int .i64 k) (hk : k ≤ n) : YieldsIf Tryd.prog ops S op (.slice (slP sz sp k cap) (n - k) (cap - k)) a :=
  .inl ⟨hw, fun w _ => by
    unfold execOp
    simp only [ho, Option.map_some, Option.map_none, hx, hlo]
    have := run_cut ht he w sp n cap k hk
    simp [Instr.sliceAt, run_underlying ht, this]⟩
theorem slP_none (sz k cap : Nat) (sp : Option Addr) : (slP sz sp k cap = none) = (sp = none) := by
  unfold slP; split
  · rfl
  · simp
theorem ins_at {α : Type} {f : α → ByteArray} {l a b : List α} {x : α} (ha : a.all (fun y => pls (f y) (f x)) = true) (hl : l = a ++ b) (hb : b.head?.all (fun y => !pls (f y) (f x)) = true) : ins f l x = (a ++ [x]) ++ b := by
  subst hl
  have ha' : ∀ y ∈ a, pls (f y) (f x) = true := by simpa using ha
  unfold ins
  have hbt : b.takeWhile (fun y => pls (f y) (f x)) = [] := by
    cases b with
    | nil => rfl
    | cons y b => have : pls (f y) (f x) = false := by simpa using hb
                  simp [this]
  have hbd : b.dropWhile (fun y => pls (f y) (f x)) = b := by
    cases b with
    | nil => rfl
    | cons y b => have : pls (f y) (f x) = false := by simpa using hb
                  simp [this]
  rw [List.takeWhile_append_of_pos ha', List.dropWhile_append_of_pos ha', hbt, hbd]; simp
theorem CgsIn.cut {w : World} {B : Nat} {sp : Option Addr} {n cap : Nat} {l : List Cg} (h : CgsIn w B sp n cap l) {k : Nat} (hk : k ≤ n) : CgsIn w B (slP 65 sp k cap) (n - k) (cap - k) (l.drop k) :=
  ⟨by rw [List.length_drop, h.len], fun x hx => h.ok x (List.mem_of_mem_drop hx), fun hn => by
    obtain ⟨b, off, rfl, hlt, hc, hr⟩ := h.cells (by omega)
    refine ⟨b, off + k * 65, ?_, hlt, by omega, fun i x hi => ?_⟩
    · unfold slP; rw [if_neg (by omega)]; simp only [Option.map_some, Addr.add_mid]
    · rw [List.getElem?_drop] at hi
      have := hr (k + i) x hi
      rw [show off + (k + i) * 65 = off + k * 65 + i * 65 by omega] at this
      exact this⟩
set_option maxRecDepth 100000 in
theorem wp_appendsCgS {o : Oper} {a : Act} {w : World} {K : Act → World → Prop} {Q : Exit → Act → World → Prop} (s x : Operand)
    (ho : o.op = .call { callee := .builtin .append, args := #[s, x], argTypes := #[40, 40] }) (base : Nat) (v : Value) (l : List Cg) (n : Nat) (hn : n = l.length) (hs : a.eval s = v) (hown : OwnC w base v l)
    (sp : Option Addr) (m c : Nat) (hx : a.eval x = .slice sp m c) {B : Nat} {l2 : List Cg} (hsrc : CgsIn w B sp m c l2) (hnil : sp = none → c = 0) (hlen : n ≤ 1000000) (hm : m ≤ 1000000) (hbase : base ≤ w.heap.size)
    (h : ∀ sp' cap w', Hid (OwnC w' base (.slice sp' (n + m) cap) (l ++ l2)) → Hid (Below base w w') → K (a.put o.dst (.slice sp' (n + m) cap)) w') : o.wp Tryd.prog a w K Q := by
  subst hn
  obtain ⟨i0, hi0, hz0, hz1, hz2⟩ := info_parts infoC3
  have hok : ∀ z ∈ l ++ l2, OkC z := fun z hz => by
    rcases List.mem_append.1 hz with hz | hz
    · exact hown.2 z hz
    · exact hsrc.ok z hz
  have hl2 := hsrc.len
  cases sp with
  | none =>
    have hm0 : m = 0 := by
      by_cases h0 : 0 < m
      · obtain ⟨_, _, e, _⟩ := hsrc.cells h0; cases e
      · omega
    have hn2 : l2 = [] := List.eq_nil_of_length_eq_zero (by omega)
    subst hn2 hm0
    have hc0 := hnil rfl
    subst hc0
    have hrun := run_append_owned_none (P := Tryd.prog) (w := w) base 40 o.type 81 i0 65 Tryd.underlying40 hi0 v l.length (rowsC l) hown.1
    obtain ⟨sp', cap', rfl⟩ := own_shapeS hown.1
    unfold Oper.wp
    simp [execOp, ho, resolve, invoke, builtin, hs, hx, hrun, Result.andThen]
    exact h sp' cap' w ⟨by rw [List.append_nil]; exact hown.1, hok⟩ (Below.refl _ _)
  | some ad =>
    have hcells : ∀ j u, (l2.flatMap cgL)[j]? = some u → w.cell? (ad.add j) = some u := by
      intro j u hj
      have hlt := (List.getElem?_eq_some_iff.1 hj).1
      have hfl : (l2.flatMap cgL).length = m * 65 := by
        rw [List.length_flatMap, ← hl2]
        have : ∀ q : List Cg, (∀ z ∈ q, OkC z) → (q.map fun z => (cgL z).length).sum = q.length * 65 := by
          intro q hq
          induction q with
          | nil => rfl
          | cons z q ih => rw [List.map_cons, List.sum_cons, ih (fun y hy => hq y (by simp [hy])), cgL_length (hq z (by simp)), List.length_cons]; omega
        exact this l2 hsrc.ok
      obtain ⟨b, off, e, _, _, hr⟩ := hsrc.cells (by omega)
      injection e with e; subst e
      rw [Addr.add_mid]
      have hi : j / 65 < l2.length := by rw [hl2]; exact Nat.div_lt_of_lt_mul (by rw [Nat.mul_comm]; omega)
      have hx' : l2[j / 65]? = some l2[j / 65] := List.getElem?_eq_getElem hi
      have hjm : j % 65 < (cgL l2[j / 65]).length := by rw [cgL_length (hsrc.ok _ (List.getElem_mem hi))]; exact Nat.mod_lt _ (by decide)
      have hv := flat_at cgL 65 l2 (fun z hz => cgL_length (hsrc.ok z hz)) (j / 65) _ hx' (j % 65) _ (List.getElem?_eq_getElem hjm)
      rw [show j / 65 * 65 + j % 65 = j by omega, hj] at hv
      have := hr (j / 65) _ hx' (j % 65) _ (List.getElem?_eq_getElem hjm)
      rw [← hv] at this
      rw [show off + j = off + j / 65 * 65 + j % 65 by omega]
      exact this
    have hfl : (l2.flatMap cgL).length = m * 65 := by
      rw [List.length_flatMap, ← hl2]
      have : ∀ q : List Cg, (∀ z ∈ q, OkC z) → (q.map fun z => (cgL z).length).sum = q.length * 65 := by
        intro q hq
        induction q with
        | nil => rfl
        | cons z q ih => rw [List.map_cons, List.sum_cons, ih (fun y hy => hq y (by simp [hy])), cgL_length (hq z (by simp)), List.length_cons]; omega
      exact this l2 hsrc.ok
    refine wp_append_own w s x _ ho base _ i0 _ 65 80 Tryd.underlying40 hi0 hz0 hz1 hz2 rfl (by decide) v l.length _ hs hown.1 ad m c (l2.flatMap cgL) hx hfl hcells ?_ (by unfold maxLen; omega) (by omega) hbase ?_
    · intro u hu
      obtain ⟨z, _, hz⟩ := List.mem_flatMap.1 hu
      exact cgL_one z u hz
    · intro v' w' h1 h2 _
      obtain ⟨sp', cap, rfl⟩ := own_shapeS h1
      refine h sp' cap w' ⟨?_, hok⟩ ((Below.refl base w).grown h2 hbase (own_baseS hown.1))
      rw [List.length_append, hl2, show rowsC (l ++ l2) = rowsC l ++ l2.flatMap cgL by simp [rowsC]]
      exact h1
theorem EnsIn.cut {w : World} {B : Nat} {sp : Option Addr} {n cap : Nat} {l : List En} (h : EnsIn w B sp n cap l) {k : Nat} (hk : k ≤ n) : EnsIn w B (slP 33 sp k cap) (n - k) (cap - k) (l.drop k) :=
  ⟨by rw [List.length_drop, h.len], fun x hx => h.ok x (List.mem_of_mem_drop hx), fun hn => by
    obtain ⟨b, off, rfl, hlt, hc, hr⟩ := h.cells (by omega)
    refine ⟨b, off + k * 33, ?_, hlt, by omega, fun i x hi => ?_⟩
    · unfold slP; rw [if_neg (by omega)]; simp only [Option.map_some, Addr.add_mid]
    · rw [List.getElem?_drop] at hi
      have := hr (k + i) x hi
      rw [show off + (k + i) * 33 = off + k * 33 + i * 33 by omega] at this
      exact this⟩
set_option maxRecDepth 100000 in
theorem wp_appendsEnS {o : Oper} {a : Act} {w : World} {K : Act → World → Prop} {Q : Exit → Act → World → Prop} (s x : Operand)
    (ho : o.op = .call { callee := .builtin .append, args := #[s, x], argTypes := #[22, 22] }) (base : Nat) (v : Value) (l : List En) (n : Nat) (hn : n = l.length) (hs : a.eval s = v) (hown : OwnE w base v l)
    (sp : Option Addr) (m c : Nat) (hx : a.eval x = .slice sp m c) {B : Nat} {l2 : List En} (hsrc : EnsIn w B sp m c l2) (hnil : sp = none → c = 0) (hlen : n ≤ 1000000) (hm : m ≤ 1000000) (hbase : base ≤ w.heap.size)
    (h : ∀ sp' cap w', Hid (OwnE w' base (.slice sp' (n + m) cap) (l ++ l2)) → Hid (Below base w w') → K (a.put o.dst (.slice sp' (n + m) cap)) w') : o.wp Tryd.prog a w K Q := by
  subst hn
  obtain ⟨i0, hi0, hz0, hz1, hz2⟩ := info_parts infoE3
  have hok : ∀ z ∈ l ++ l2, OkE z := fun z hz => by
    rcases List.mem_append.1 hz with hz | hz
    · exact hown.2 z hz
    · exact hsrc.ok z hz
  have hl2 := hsrc.len
  cases sp with
  | none =>
    have hm0 : m = 0 := by
      by_cases h0 : 0 < m
      · obtain ⟨_, _, e, _⟩ := hsrc.cells h0; cases e
      · omega
    have hn2 : l2 = [] := List.eq_nil_of_length_eq_zero (by omega)
    subst hn2 hm0
    have hc0 := hnil rfl
    subst hc0
    have hrun := run_append_owned_none (P := Tryd.prog) (w := w) base 22 o.type 70 i0 33 Tryd.underlying22 hi0 v l.length (rowsE l) hown.1
    obtain ⟨sp', cap', rfl⟩ := own_shapeS hown.1
    unfold Oper.wp
    simp [execOp, ho, resolve, invoke, builtin, hs, hx, hrun, Result.andThen]
    exact h sp' cap' w ⟨by rw [List.append_nil]; exact hown.1, hok⟩ (Below.refl _ _)
  | some ad =>
    have hcells : ∀ j u, (l2.flatMap enL)[j]? = some u → w.cell? (ad.add j) = some u := by
      intro j u hj
      have hlt := (List.getElem?_eq_some_iff.1 hj).1
      have hfl : (l2.flatMap enL).length = m * 33 := by
        rw [List.length_flatMap, ← hl2]
        have : ∀ q : List En, (∀ z ∈ q, OkE z) → (q.map fun z => (enL z).length).sum = q.length * 33 := by
          intro q hq
          induction q with
          | nil => rfl
          | cons z q ih => rw [List.map_cons, List.sum_cons, ih (fun y hy => hq y (by simp [hy])), enL_length (hq z (by simp)), List.length_cons]; omega
        exact this l2 hsrc.ok
      obtain ⟨b, off, e, _, _, hr⟩ := hsrc.cells (by omega)
      injection e with e; subst e
      rw [Addr.add_mid]
      have hi : j / 33 < l2.length := by rw [hl2]; exact Nat.div_lt_of_lt_mul (by rw [Nat.mul_comm]; omega)
      have hx' : l2[j / 33]? = some l2[j / 33] := List.getElem?_eq_getElem hi
      have hjm : j % 33 < (enL l2[j / 33]).length := by rw [enL_length (hsrc.ok _ (List.getElem_mem hi))]; exact Nat.mod_lt _ (by decide)
      have hv := flat_at enL 33 l2 (fun z hz => enL_length (hsrc.ok z hz)) (j / 33) _ hx' (j % 33) _ (List.getElem?_eq_getElem hjm)
      rw [show j / 33 * 33 + j % 33 = j by omega, hj] at hv
      have := hr (j / 33) _ hx' (j % 33) _ (List.getElem?_eq_getElem hjm)
      rw [← hv] at this
      rw [show off + j = off + j / 33 * 33 + j % 33 by omega]
      exact this
    have hfl : (l2.flatMap enL).length = m * 33 := by
      rw [List.length_flatMap, ← hl2]
      have : ∀ q : List En, (∀ z ∈ q, OkE z) → (q.map fun z => (enL z).length).sum = q.length * 33 := by
        intro q hq
        induction q with
        | nil => rfl
        | cons z q ih => rw [List.map_cons, List.sum_cons, ih (fun y hy => hq y (by simp [hy])), enL_length (hq z (by simp)), List.length_cons]; omega
      exact this l2 hsrc.ok
    refine wp_append_own w s x _ ho base _ i0 _ 33 48 Tryd.underlying22 hi0 hz0 hz1 hz2 rfl (by decide) v l.length _ hs hown.1 ad m c (l2.flatMap enL) hx hfl hcells ?_ (by unfold maxLen; omega) (by omega) hbase ?_
    · intro u hu
      obtain ⟨z, _, hz⟩ := List.mem_flatMap.1 hu
      exact enL_one z u hz
    · intro v' w' h1 h2 _
      obtain ⟨sp', cap, rfl⟩ := own_shapeS h1
      refine h sp' cap w' ⟨?_, hok⟩ ((Below.refl base w).grown h2 hbase (own_baseS hown.1))
      rw [List.length_append, hl2, show rowsE (l ++ l2) = rowsE l ++ l2.flatMap enL by simp [rowsE]]
      exact h1
set_option maxRecDepth 100000 in
set_option maxHeartbeats 1000000 in
theorem rinsert_any (sp : Option Addr) (n cap : Nat) (l : List En) (x : En) (w : World) (hl : EnsIn w w.heap.size sp n cap l) (hnil : sp = none → cap = 0) (hx : OkE x) (hn : n ≤ 400000) :
    Calls Tryd.prog 56 #[.slice sp n cap, .agg (enL x).toArray] w fun e w' => ∃ sp' cap', e = .returned (.slice sp' (n + 1) cap') ∧ OwnE w' w.heap.size (.slice sp' (n + 1) cap') (ins En.p l x) ∧ Below w.heap.size w w' := by
  have HL := Lib.hid hl; have HOX := Lib.hid hx
  have HIX := Lib.hid (info_e hx)
  have HNW := Lib.hid (EnB.new w x)
  have hb0 : Below w.heap.size w (w.alloc (.cells (enL x).toArray 70)) := (Below.refl _ w).alloc (Nat.le_refl _) _
  have HB0 := Lib.hid hb0
  clear hl hx hb0
  go_enter Tryd.func56, Tryd.ntmps56
  go_wp2_with fail
  generalize hw0 : World.alloc w _ = w0
  have hx0 : EnB w0 w.heap.size x := by rw [← hw0]; exact HNW.out
  have hbl0 : Below w.heap.size w w0 := by rw [← hw0]; exact HB0.out
  have hs0 : w.heap.size + 1 ≤ w0.heap.size := by rw [← hw0]; simp
  have HBX := Lib.hid hx0; have HBL0 := Lib.hid hbl0
  have HL := Lib.hid (HL.out.below hbl0 (Nat.le_refl _))
  clear hw0 hx0 hbl0 HNW HB0
  go_loopw [5, 6] (fun v i wr => ∃ (k : Nat) (sp' : Option Addr) (cap' : Nat), k ≤ n ∧ i = .int .i64 k ∧ v = .slice sp' k cap' ∧ Hid (OwnE wr (w.heap.size + 1) (.slice sp' k cap') (l.take k)) ∧ Hid ((l.take k).all (fun y => pls y.p x.p) = true) ∧ Hid (Below (w.heap.size + 1) w0 wr)) (fun _ i _ => n - (intOf i).toNat)
  case atStart => exact ⟨0, _, _, Nat.zero_le _, rfl, rfl, OwnE.nil _ _, rfl, Below.refl _ _⟩
  case round =>
  obtain ⟨k, sp', cap', hk, rfl, rfl, hown, HALL, hbe⟩ := hrel
  have hbs : w.heap.size + 1 ≤ wr.heap.size := Nat.le_trans hs0 hbe.out.size
  have hk0 : (0 : Int) ≤ (k : Int) := by omega
  have HKL : Hid (k = (l.take k).length) := by show _ = _; rw [List.length_take, HL.out.len]; omega
  have hxp := (HBX.out.below hbe.out (Nat.lt_succ_self _)).p
  by_cases hgo : ∃ y, l[k]? = some y ∧ pls y.p x.p = true
  · obtain ⟨y, hy, hp⟩ := hgo
    have hlt : k < n := by have := (List.getElem?_eq_some_iff.1 hy).1; have := HL.out.len; omega
    have hd : decide ((k : Int) < (n : Int)) = true := by simp; omega
    obtain ⟨b, off, rfl, hbB, hcap, -⟩ := HL.out.cells (by omega)
    have hyr := range_belowS (HL.out.at hy).2 hbe.out (by omega)
    have hyp := rngE_p hyr
    have HYR := Lib.hid hyr
    have HOY := Lib.hid (HL.out.ok y (List.mem_of_getElem? hy))
    have HIY := Lib.hid (info_e HOY.out)
    have HT : Hid (l.take (k + 1) = l.take k ++ [y]) := by show _ = _; rw [List.take_add_one, hy]; rfl
    have HALL2 : Hid ((l.take (k + 1)).all (fun y => pls y.p x.p) = true) := by show _ = _; rw [HT.out, List.all_append, HALL.out]; simp [hp]
    have hlt2 : Op.bytesLess y.p.toList x.p.toList = true := hp
    have p2 : (k : Int) < (n : Int) := by omega
    clear hy hp hyr
    go_wp2_with fail
    go_quiet (fail)
    generalize hwd : World.drewN wr nq = wd
    have hbd : Below wr.heap.size wr wd := by rw [← hwd]; exact ⟨rfl, rfl, rfl, Nat.le_refl _, fun _ _ => rfl⟩
    have hsd : wd.heap.size = wr.heap.size := by rw [← hwd]; rfl
    have HSD := Lib.hid hsd
    have HBD := Lib.hid (hbe.out.trans (hbd.mono hbs))
    have HOD := Lib.hid (hown.out.below hbd)
    have HYD := Lib.hid (range_belowS HYR.out hbd (by omega))
    have hbsd : w.heap.size + 1 ≤ wd.heap.size := by omega
    clear hwd hbd hsd hxp hyp hlt2
    go_wp2_with (first
      | (refine wpList_load_mid rfl 70 _ rfl b (off + k * 33) rfl _ _ HYD.out Tryd.underlying70 rfl HIY.out ?_)
      | (refine wpList_slice_eq rfl 22 1 [(0, .tmp 25)] rfl [(0, .agg (enL y).toArray)] rfl _ _ (sliceE _ y HOY.out) ?_; have hz4 : EnB (wd.alloc (.cells (enL y).toArray 70)) wd.heap.size y := (EnB.new wd y); have ho4 := (HOD.out.below ((Below.refl wd.heap.size wd).alloc (Nat.le_refl _) (.cells (enL y).toArray 70))); have HZ4 := Lib.hid hz4; have HO4 := Lib.hid ho4; clear hz4 ho4)
      | (at_builtin; refine wpList_append_en rfl (.tmp 21) (.tmp 26) rfl (w.heap.size + 1) _ _ k HKL.out rfl HO4.out wd.heap.size y rfl HZ4.out HOY.out (by omega) (by simp; omega) ?_; intro sp5 cap5 w5 HO5 HB5 HG5))
    have HB6 := Lib.hid ((HBD.out.trans (((Below.refl _ wd).alloc (Nat.le_refl _) _).mono hbsd)).trans HB5.out)
    go_roundw
    case rel => exact ⟨k + 1, sp5, cap5, by omega, by go_num, rfl, by show OwnE _ _ _ _; rw [HT.out]; exact HO5.out, HALL2, HB6⟩
    case measure => simp [intOf]; omega
  · have hst : ∀ y, l[k]? = some y → pls y.p x.p = false := fun y hy => by
      by_cases h : pls y.p x.p = true
      · exact absurd ⟨y, hy, h⟩ hgo
      · simpa using h
    have HINS : Hid (ins En.p l x = (l.take k ++ [x]) ++ l.drop k) := by
      show _ = _
      have h1 : l = l.take k ++ l.drop k := (List.take_append_drop k l).symm
      have h2 : (l.drop k).head?.all (fun y => !pls y.p x.p) = true := by
        rw [List.head?_drop]
        cases hy : l[k]? with
        | none => rfl
        | some y => simp [hst y hy]
      exact ins_at HALL.out h1 h2
    have HKN : Hid (k + 1 + (n - k) = n + 1) := by show _ = _; omega
    by_cases hlt : k < n
    · obtain ⟨y, hy⟩ : ∃ y, l[k]? = some y := ⟨l[k]'(by have := HL.out.len; omega), List.getElem?_eq_getElem _⟩
      have hd : decide ((k : Int) < (n : Int)) = true := by simp; omega
      obtain ⟨b, off, hspe, hbB, hcap, -⟩ := HL.out.cells (by omega)
      have hyp : wr.cell? ⟨b, off + k * 33, none⟩ = some (.string y.p) := by
        have h1 := HL.out
        rw [hspe] at h1
        exact rngE_p (range_belowS (h1.at hy).2 hbe.out (by omega))
      have hlt2 : Op.bytesLess y.p.toList x.p.toList = false := hst y hy
      have p2 : (k : Int) < (n : Int) := by omega
      clear hgo hst hy
      subst hspe
      go_wp2_with fail
      go_quiet (fail)
      generalize hwd : World.drewN wr nq = wd
      have hbd : Below wr.heap.size wr wd := by rw [← hwd]; exact ⟨rfl, rfl, rfl, Nat.le_refl _, fun _ _ => rfl⟩
      have HBD := Lib.hid (hbe.out.trans (hbd.mono hbs))
      have HOD := Lib.hid (hown.out.below hbd)
      have hbsd := Nat.le_trans hbs hbd.size
      clear hwd hbd hxp
      go_wp2_with fail
      refine wp_region_held_drew (S := fun w' => EnB w' w.heap.size x ∧ EnsIn w' (w.heap.size + 1) (some ⟨b, off, none⟩) n cap l) (by kernel_rfl) ⟨HBX.out.below HBD.out.drew (Nat.lt_succ_self _), HL.out.below HBD.out.drew (Nat.le_succ _)⟩ (fun hHeld => ?_)
      refine wpAnyH_take (i := 0) (oi := _) (v := ?v0n1q) rfl (by kernel_rfl) (by kernel_rfl) (by kernel_rfl) (fun _ _ _ h => h) (Or.inl ⟨by rfl, ?hy0n1q⟩) (by assumption) ?rest0n1q
      case hy0n1q =>
        intro w' hSw
        go_simp
        try with_reducible rfl
      try simp only [Act.put, List.getElem_toArray, List.getElem_cons_succ, List.getElem_cons_zero, List.setIfInBounds_toArray, List.set_cons_zero, List.set_cons_succ]
      refine' wpAnyH_take (i := 1) (oi := _) (v := _) rfl (by kernel_rfl) (by kernel_rfl) (by kernel_rfl) (fun _ _ _ h => h) (yieldsIf_load_mid (by rfl) _ _ rfl _ _ rfl _ _ ?hS1n2q Tryd.underlying70 rfl HIX.out) (by assumption) ?rest1n2q
      case hS1n2q =>
        intro w' hSw
        exact hSw.1.all
      try simp only [Act.put, List.getElem_toArray, List.getElem_cons_succ, List.getElem_cons_zero, List.setIfInBounds_toArray, List.set_cons_zero, List.set_cons_succ]
      refine wpAnyH_take (i := 4) (oi := _) (v := ?v4n3q) rfl (by kernel_rfl) (by kernel_rfl) (by kernel_rfl) (fun _ _ _ h => h) (Or.inl ⟨by rfl, ?hy4n3q⟩) (by assumption) ?rest4n3q
      case hy4n3q =>
        intro w' hSw
        go_simp
        try with_reducible rfl
      try simp only [Act.put, List.getElem_toArray, List.getElem_cons_succ, List.getElem_cons_zero, List.setIfInBounds_toArray, List.set_cons_zero, List.set_cons_succ]
      refine wpAnyH_take (i := 5) (oi := _) (v := ?v5n4q) rfl (by kernel_rfl) (by kernel_rfl) (by kernel_rfl) (fun _ _ _ h => h) (Or.inl ⟨by rfl, ?hy5n4q⟩) (by assumption) ?rest5n4q
      case hy5n4q =>
        intro w' hSw
        go_simp
        try with_reducible rfl
      try simp only [Act.put, List.getElem_toArray, List.getElem_cons_succ, List.getElem_cons_zero, List.setIfInBounds_toArray, List.set_cons_zero, List.set_cons_succ]
      refine' wpAnyH_take (i := 6) (oi := _) (v := _) rfl (by kernel_rfl) (by kernel_rfl) (by kernel_rfl) (fun _ _ _ h => h) (yieldsIf_cut Tryd.underlying22 infoE (by rfl) _ _ rfl (some ⟨b, off, none⟩) n cap k rfl rfl hk) (by assumption) ?rest6dq
      try simp only [Act.put, List.getElem_toArray, List.getElem_cons_succ, List.getElem_cons_zero, List.setIfInBounds_toArray, List.set_cons_zero, List.set_cons_succ]
      refine wpAnyH_ready (rs := [2]) (by kernel_rfl) (by simp) (AllReadyH.cons (o := _) rfl (fun K hK => ?_) AllReadyH.nil)
      rw [if_pos (by rfl)]
      refine wp_slice_eqS 22 1 [(0, .tmp 31)] rfl [(0, .agg (enL x).toArray)] rfl _ _ (sliceE _ x HOX.out) ?_
      generalize hw3 : World.alloc wd.drew _ = w3
      have hz3 : EnB w3 wd.heap.size x := by rw [← hw3]; exact heap_alloc_new wd.drew _
      have hb3 : Below wd.heap.size wd w3 := by rw [← hw3]; exact ((Below.refl _ wd).drew).alloc (Nat.le_refl _) _
      have hs3 : wd.heap.size < w3.heap.size := by rw [← hw3, World.size_alloc]; exact Nat.lt_succ_self _
      have HZ3 := Lib.hid hz3
      have HB3 := Lib.hid (HBD.out.trans (hb3.mono hbsd))
      have HO3 := Lib.hid (HOD.out.below hb3)
      clear hw3 hz3 hb3
      refine hK.out _ _ ⟨HBX.out.below HB3.out (Nat.lt_succ_self _), HL.out.below HB3.out (Nat.le_succ _)⟩ (fun hHeld => ?_)
      clear hK K
      try simp only [Act.put, List.getElem_toArray, List.getElem_cons_succ, List.getElem_cons_zero, List.setIfInBounds_toArray, List.set_cons_zero, List.set_cons_succ]
      have HKL4 : Hid (k + 1 = (l.take k ++ [x]).length) := by show _ = _; rw [List.length_append, ← HKL.out]; rfl
      refine wpAnyH_ready (rs := [3]) (by kernel_rfl) (by simp) (AllReadyH.cons (o := _) rfl (fun K hK => ?_) AllReadyH.nil)
      rw [if_pos (by rfl)]
      refine wp_append_enS (.tmp 30) (.tmp 32) rfl (w.heap.size + 1) _ _ k HKL.out rfl HO3.out wd.heap.size x rfl HZ3.out HOX.out (by omega) (by omega) ?_
      intro sp4 cap4 w4 HO4 HB4 HG4
      have HB5 := Lib.hid (HB3.out.trans HB4.out)
      have hs4 := HB4.out.size
      refine hK.out _ _ ⟨HBX.out.below HB5.out (Nat.lt_succ_self _), HL.out.below HB5.out (Nat.le_succ _)⟩ (fun hHeld => ?_)
      clear hK K
      try simp only [Act.put, List.getElem_toArray, List.getElem_cons_succ, List.getElem_cons_zero, List.setIfInBounds_toArray, List.set_cons_zero, List.set_cons_succ]
      refine wpAnyH_ready (rs := [7]) (by kernel_rfl) (by simp) (AllReadyH.cons (o := _) rfl (fun K hK => ?_) AllReadyH.nil)
      rw [if_pos (by rfl)]
      refine wp_appendsEnS (.tmp 33) (.tmp 36) rfl (w.heap.size + 1) _ _ (k + 1) HKL4.out rfl HO4.out _ (n - k) (cap - k) rfl (HL.out.below HB5.out (Nat.le_succ _) |>.cut hk) (by rw [slP_none]; exact fun h => by rw [hnil h]; simp) (by omega) (by omega) (by omega) ?_
      intro sp6 cap6 w6 HO6 HB6
      have HB7 := Lib.hid (HB5.out.trans HB6.out)
      refine hK.out _ _ ⟨HBX.out.below HB7.out (Nat.lt_succ_self _), HL.out.below HB7.out (Nat.le_succ _)⟩ (fun hHeld => ?_)
      clear hK K
      try simp only [Act.put, List.getElem_toArray, List.getElem_cons_succ, List.getElem_cons_zero, List.setIfInBounds_toArray, List.set_cons_zero, List.set_cons_succ]
      refine wpAnyH_take (i := 8) (oi := _) (v := ?v8n5q) rfl (by kernel_rfl) (by kernel_rfl) (by kernel_rfl) (fun _ _ _ h => h) (Or.inl ⟨by rfl, ?hy8n5q⟩) (by assumption) ?rest8n5q
      case hy8n5q =>
        intro w' hSw
        go_simp
        try with_reducible rfl
      try simp only [Act.put, List.getElem_toArray, List.getElem_cons_succ, List.getElem_cons_zero, List.setIfInBounds_toArray, List.set_cons_zero, List.set_cons_succ]
      refine wpAnyH_done (by kernel_rfl) ?_ _
      have HO6' := Lib.hid (HO6.out.base (Nat.le_succ w.heap.size))
      go_wp2_with fail
      go_ret
      refine ⟨sp6, cap6, ?_, ?_, HBL0.out.trans (HB7.out.mono (Nat.le_succ _))⟩
      · rw [← HKN.out]; rfl
      · rw [← HKN.out, HINS.out]; exact HO6'.out

    · obtain rfl : k = n := by omega
      have hd : decide ((k : Int) < (k : Int)) = false := by simp
      clear hgo hst
      go_wp2_with fail
      go_quiet (fail)
      generalize hwd : World.drewN wr nq = wd
      have hbd : Below wr.heap.size wr wd := by rw [← hwd]; exact ⟨rfl, rfl, rfl, Nat.le_refl _, fun _ _ => rfl⟩
      have HBD := Lib.hid (hbe.out.trans (hbd.mono hbs))
      have HOD := Lib.hid (hown.out.below hbd)
      have hbsd := Nat.le_trans hbs hbd.size
      clear hwd hbd hxp
      go_wp2_with fail
      refine wp_region_held_drew (S := fun w' => EnB w' w.heap.size x ∧ EnsIn w' (w.heap.size + 1) sp k cap l) (by kernel_rfl) ⟨HBX.out.below HBD.out.drew (Nat.lt_succ_self _), HL.out.below HBD.out.drew (Nat.le_succ _)⟩ (fun hHeld => ?_)
      refine wpAnyH_take (i := 0) (oi := _) (v := ?v0n1) rfl (by kernel_rfl) (by kernel_rfl) (by kernel_rfl) (fun _ _ _ h => h) (Or.inl ⟨by rfl, ?hy0n1⟩) (by assumption) ?rest0n1
      case hy0n1 =>
        intro w' hSw
        go_simp
        try with_reducible rfl
      try simp only [Act.put, List.getElem_toArray, List.getElem_cons_succ, List.getElem_cons_zero, List.setIfInBounds_toArray, List.set_cons_zero, List.set_cons_succ]
      refine' wpAnyH_take (i := 1) (oi := _) (v := _) rfl (by kernel_rfl) (by kernel_rfl) (by kernel_rfl) (fun _ _ _ h => h) (yieldsIf_load_mid (by rfl) _ _ rfl _ _ rfl _ _ ?hS1n2 Tryd.underlying70 rfl HIX.out) (by assumption) ?rest1n2
      case hS1n2 =>
        intro w' hSw
        exact hSw.1.all
      try simp only [Act.put, List.getElem_toArray, List.getElem_cons_succ, List.getElem_cons_zero, List.setIfInBounds_toArray, List.set_cons_zero, List.set_cons_succ]
      refine wpAnyH_take (i := 4) (oi := _) (v := ?v4n3) rfl (by kernel_rfl) (by kernel_rfl) (by kernel_rfl) (fun _ _ _ h => h) (Or.inl ⟨by rfl, ?hy4n3⟩) (by assumption) ?rest4n3
      case hy4n3 =>
        intro w' hSw
        go_simp
        try with_reducible rfl
      try simp only [Act.put, List.getElem_toArray, List.getElem_cons_succ, List.getElem_cons_zero, List.setIfInBounds_toArray, List.set_cons_zero, List.set_cons_succ]
      refine wpAnyH_take (i := 5) (oi := _) (v := ?v5n4) rfl (by kernel_rfl) (by kernel_rfl) (by kernel_rfl) (fun _ _ _ h => h) (Or.inl ⟨by rfl, ?hy5n4⟩) (by assumption) ?rest5n4
      case hy5n4 =>
        intro w' hSw
        go_simp
        try with_reducible rfl
      try simp only [Act.put, List.getElem_toArray, List.getElem_cons_succ, List.getElem_cons_zero, List.setIfInBounds_toArray, List.set_cons_zero, List.set_cons_succ]
      refine' wpAnyH_take (i := 6) (oi := _) (v := _) rfl (by kernel_rfl) (by kernel_rfl) (by kernel_rfl) (fun _ _ _ h => h) (yieldsIf_cut Tryd.underlying22 infoE (by rfl) _ _ rfl sp k cap k rfl rfl hk) (by assumption) ?rest6d
      try simp only [Act.put, List.getElem_toArray, List.getElem_cons_succ, List.getElem_cons_zero, List.setIfInBounds_toArray, List.set_cons_zero, List.set_cons_succ]
      refine wpAnyH_ready (rs := [2]) (by kernel_rfl) (by simp) (AllReadyH.cons (o := _) rfl (fun K hK => ?_) AllReadyH.nil)
      rw [if_pos (by rfl)]
      refine wp_slice_eqS 22 1 [(0, .tmp 31)] rfl [(0, .agg (enL x).toArray)] rfl _ _ (sliceE _ x HOX.out) ?_
      generalize hw3 : World.alloc wd.drew _ = w3
      have hz3 : EnB w3 wd.heap.size x := by rw [← hw3]; exact heap_alloc_new wd.drew _
      have hb3 : Below wd.heap.size wd w3 := by rw [← hw3]; exact ((Below.refl _ wd).drew).alloc (Nat.le_refl _) _
      have hs3 : wd.heap.size < w3.heap.size := by rw [← hw3, World.size_alloc]; exact Nat.lt_succ_self _
      have HZ3 := Lib.hid hz3
      have HB3 := Lib.hid (HBD.out.trans (hb3.mono hbsd))
      have HO3 := Lib.hid (HOD.out.below hb3)
      clear hw3 hz3 hb3
      refine hK.out _ _ ⟨HBX.out.below HB3.out (Nat.lt_succ_self _), HL.out.below HB3.out (Nat.le_succ _)⟩ (fun hHeld => ?_)
      clear hK K
      try simp only [Act.put, List.getElem_toArray, List.getElem_cons_succ, List.getElem_cons_zero, List.setIfInBounds_toArray, List.set_cons_zero, List.set_cons_succ]
      have HKL4 : Hid (k + 1 = (l.take k ++ [x]).length) := by show _ = _; rw [List.length_append, ← HKL.out]; rfl
      refine wpAnyH_ready (rs := [3]) (by kernel_rfl) (by simp) (AllReadyH.cons (o := _) rfl (fun K hK => ?_) AllReadyH.nil)
      rw [if_pos (by rfl)]
      refine wp_append_enS (.tmp 30) (.tmp 32) rfl (w.heap.size + 1) _ _ k HKL.out rfl HO3.out wd.heap.size x rfl HZ3.out HOX.out (by omega) (by omega) ?_
      intro sp4 cap4 w4 HO4 HB4 HG4
      have HB5 := Lib.hid (HB3.out.trans HB4.out)
      have hs4 := HB4.out.size
      refine hK.out _ _ ⟨HBX.out.below HB5.out (Nat.lt_succ_self _), HL.out.below HB5.out (Nat.le_succ _)⟩ (fun hHeld => ?_)
      clear hK K
      try simp only [Act.put, List.getElem_toArray, List.getElem_cons_succ, List.getElem_cons_zero, List.setIfInBounds_toArray, List.set_cons_zero, List.set_cons_succ]
      refine wpAnyH_ready (rs := [7]) (by kernel_rfl) (by simp) (AllReadyH.cons (o := _) rfl (fun K hK => ?_) AllReadyH.nil)
      rw [if_pos (by rfl)]
      refine wp_appendsEnS (.tmp 33) (.tmp 36) rfl (w.heap.size + 1) _ _ (k + 1) HKL4.out rfl HO4.out _ (k - k) (cap - k) rfl (HL.out.below HB5.out (Nat.le_succ _) |>.cut hk) (by rw [slP_none]; exact fun h => by rw [hnil h]; simp) (by omega) (by omega) (by omega) ?_
      intro sp6 cap6 w6 HO6 HB6
      have HB7 := Lib.hid (HB5.out.trans HB6.out)
      refine hK.out _ _ ⟨HBX.out.below HB7.out (Nat.lt_succ_self _), HL.out.below HB7.out (Nat.le_succ _)⟩ (fun hHeld => ?_)
      clear hK K
      try simp only [Act.put, List.getElem_toArray, List.getElem_cons_succ, List.getElem_cons_zero, List.setIfInBounds_toArray, List.set_cons_zero, List.set_cons_succ]
      refine wpAnyH_take (i := 8) (oi := _) (v := ?v8n5) rfl (by kernel_rfl) (by kernel_rfl) (by kernel_rfl) (fun _ _ _ h => h) (Or.inl ⟨by rfl, ?hy8n5⟩) (by assumption) ?rest8n5
      case hy8n5 =>
        intro w' hSw
        go_simp
        try with_reducible rfl
      try simp only [Act.put, List.getElem_toArray, List.getElem_cons_succ, List.getElem_cons_zero, List.setIfInBounds_toArray, List.set_cons_zero, List.set_cons_succ]
      refine wpAnyH_done (by kernel_rfl) ?_ _
      have HO6' := Lib.hid (HO6.out.base (Nat.le_succ w.heap.size))
      go_wp2_with fail
      go_ret
      refine ⟨sp6, cap6, ?_, ?_, HBL0.out.trans (HB7.out.mono (Nat.le_succ _))⟩
      · rw [← HKN.out]; rfl
      · rw [← HKN.out, HINS.out]; exact HO6'.out

end Go.Proofs.YtkookkhlgllneaaDoor

namespace Go.Proofs.YtkookkhlgllneaaDoor
open Go.RowKit

theorem OwnC.nilcap {w : World} {base n cap : Nat} {sp : Option Addr} {l : List Cg} (h : OwnC w base (.slice sp n cap) l) : sp = none → cap = 0 := by
  rintro rfl
  obtain ⟨_, ⟨e, _⟩ | ⟨g, c, u, e, _⟩⟩ := h.1
  · injection e
  · cases e
theorem OwnE.nilcap {w : World} {base n cap : Nat} {sp : Option Addr} {l : List En} (h : OwnE w base (.slice sp n cap) l) : sp = none → cap = 0 := by
  rintro rfl
  obtain ⟨_, ⟨e, _⟩ | ⟨g, c, u, e, _⟩⟩ := h.1
  · injection e
  · cases e
/-- what is known on the way through a round: the list made so far, a change in a block of its own -/
structure CpS (w : World) (v : Value) (out : List Cg) (bx : Nat) (y : Cg) (W : World) : Prop where
  own : OwnC W w.heap.size v out
  below : Below w.heap.size w W
  box : CgB W bx y
theorem CpS.lt {w : World} {v : Value} {out : List Cg} {bx : Nat} {y : Cg} {W : World} (h : CpS w v out bx y W) : bx < W.heap.size := (Array.getElem?_eq_some_iff.1 h.box).1
theorem CpS.next {w : World} {v : Value} {out : List Cg} {bx : Nat} {y : Cg} {W W' : World} (h : CpS w v out bx y W) (hb : Below W.heap.size W W') : CpS w v out bx y W' :=
  ⟨h.own.below hb, h.below.trans (hb.mono h.below.size), h.box.below hb h.lt⟩
def sRCompose (a b : List Cg) : Except Int (List Cg) := if vldC a && vldC b then finC (rcomp a b) else .error 1
theorem vldC_parts {l : List Cg} (h : vldC l = true) : l.length ≤ 128 ∧ Srt Cg.p l ∧ ∀ x ∈ l, x.o ≠ x.n := by
  unfold vldC at h
  rw [Bool.and_eq_true, Bool.and_eq_true] at h
  refine ⟨by simpa using h.1.1, (ascB_iff l).1 h.2, fun x hx e => ?_⟩
  have h1 : l.any badC = false := by simpa using h.1.2
  have := List.any_eq_false.1 h1 x hx
  unfold badC at this
  rw [decide_eq_true e] at this; simp at this
theorem vldE_parts {l : List En} (h : vldE l = true) : l.length ≤ 64 ∧ Srt En.p l ∧ ∀ x ∈ l, x.d ≠ zed := by
  unfold vldE at h
  rw [Bool.and_eq_true, Bool.and_eq_true] at h
  refine ⟨by simpa using h.1.1, (ascB_iff l).1 h.2, fun x hx e => ?_⟩
  have h1 : l.any badE = false := by simpa using h.1.2
  have := List.any_eq_false.1 h1 x hx
  unfold badE at this
  rw [decide_eq_true e] at this; simp at this
theorem sRCompose_eq (a b : List Cg) : sRCompose a b = sCompose a b := by
  unfold sRCompose sCompose
  by_cases h : (vldC a && vldC b) = true
  · rw [if_pos h, if_pos h]
    rw [Bool.and_eq_true] at h
    rw [rcomp_eq (vldC_parts h.1).2.1 (vldC_parts h.2).2.1 (vldC_parts h.1).2.2 (vldC_parts h.2).2.2]
  · rw [if_neg h, if_neg h]
theorem foldM_step {α β : Type} {f : β → α → Option β} {l : List α} {i : β} {k : Nat} {x : α} {o : β} (h : (l.take k).foldlM f i = some o) (hx : l[k]? = some x) : (l.take (k + 1)).foldlM f i = f o x := by
  rw [List.take_add_one, hx, List.foldlM_append, h]
  show (List.foldlM f o [x]) = _
  simp [List.foldlM_cons, List.foldlM_nil]
theorem foldM_none {α β : Type} {f : β → α → Option β} {l : List α} {i : β} {k : Nat} (h : (l.take k).foldlM f i = none) : l.foldlM f i = none := by
  have e : l = l.take k ++ l.drop k := (List.take_append_drop k l).symm
  rw [e, List.foldlM_append, h]; rfl
theorem rc1_none {b out : List Cg} {x : Cg} (h : fd b x.p = none) : rc1 b out x = some (ins Cg.p out x) := by unfold rc1; rw [h]
theorem rc1_some {b out : List Cg} {x y : Cg} (h : fd b x.p = some y) : rc1 b out x = if x.n = y.o then (if x.o = y.n then some out else some (ins Cg.p out ⟨y.p, x.o, y.n⟩)) else none := by unfold rc1; rw [h]
theorem rc2_none {a out : List Cg} {y : Cg} (h : fd a y.p = none) : rc2 a out y = ins Cg.p out y := by unfold rc2; rw [h]
theorem rc2_some {a out : List Cg} {x y : Cg} (h : fd a y.p = some x) : rc2 a out y = out := by unfold rc2; rw [h]
end Go.Proofs.YtkookkhlgllneaaDoor

namespace Go.Proofs.YtkookkhlgllneaaDoor
open Go.RowKit

/-- the file that the sanity check creates -/
def sA : ByteArray := ⟨#[97]⟩
def e1 : List Int := 1 :: List.replicate 31 0
def cA : Cg := ⟨sA, zed, e1⟩
def nA : En := ⟨sA, e1⟩
theorem e1_ok : D32 e1 := ⟨rfl, fun x hx => by
  rcases List.mem_cons.1 hx with rfl | h
  · omega
  · rw [List.eq_of_mem_replicate h]; omega⟩
theorem cA_ok : OkC cA := ⟨D32.zed, e1_ok⟩
theorem nA_ok : OkE nA := e1_ok
theorem sA_path : pathB sA = true := by decide +kernel
theorem e1_ne : e1 ≠ zed := by decide +kernel
theorem vldE_nA : vldE [nA] = true := by
  have h : badE nA = false := by unfold badE; rw [decide_eq_false (show ¬ nA.d = zed from e1_ne), show pathB nA.p = true from sA_path]; rfl
  unfold vldE; simp [h, ascB, upto]
theorem sApply_A : sApply [] [cA] = .ok [nA] := by
  have h1 : vldE [] = true := rfl
  have h : badC cA = false := by unfold badC; rw [decide_eq_false (show ¬ cA.o = cA.n from fun e => e1_ne e.symm), show pathB cA.p = true from sA_path]; rfl
  have h2 : vldC [cA] = true := by unfold vldC; simp [h, ascB, upto]
  have h3 : fol (cre []) [cA] = some [cA] := by
    unfold fol
    rw [show cre [] = [] from rfl, sbs_nil]
    have ho : outP (kp cA.p cA.o, cA) = some cA := by unfold outP; exact if_neg (fun e => e1_ne e.symm)
    rw [List.map_cons, List.map_nil, List.filterMap_cons, ho, List.filterMap_nil, if_pos (by simp [okP, kp])]
  unfold sApply
  rw [h1, h2, h3]
  show finA (some [cA]) = _
  have hn : needB cA = false := by unfold needB; simp [cA]
  rw [finA_some]
  simp [hn]; rfl
theorem wpList_build_eq_g {P : Program} {w : World} {ops : Array Oper} {rest : List Oper} {o : Oper} {a : Act} {Q : Exit → Act → World → Prop} (hw : Region.wanted o (yielded ops a.tmps) = true) (t : TypeId) (parts : List (Nat × Operand)) (ho : o.op = .build t parts.toArray)
    (vs : List (Nat × Value)) (hv : (parts.map fun (i, x) => (i, a.eval x)) = vs) (v : Value) (hrun : (Instr.build t vs.toArray).run P w = .ok v w) (h : wpList P ops Q rest (a.put o.dst v) w) : wpList P ops Q (o :: rest) a w :=
  wpList_step fun _ hK => by
    rw [if_pos hw]
    unfold Oper.wp execOp
    simp only [ho, Sem.run_bind, List.map_toArray, hv, hrun, Result.andThen_ok]
    exact hK _ _ h
set_option maxRecDepth 100000 in
set_option maxHeartbeats 1000000 in
theorem awake4_any (w : World) : Calls Tryd.prog 16 #[] w fun e w' => e = .returned (.bool true) ∧ Below w.heap.size w w' := by
  have HCN := Lib.hid (CgB.new w cA)
  have HB0 := Lib.hid ((Below.refl w.heap.size w).alloc (Nat.le_refl _) (.cells (cgL cA).toArray 81))
  have he := eqIn_E nA nA nA_ok nA_ok
  rw [decide_eq_true rfl] at he
  have he2 : ∀ w, (Op.equalIn 10000 70 (.agg (enL nA).toArray) (.agg (enL ⟨sA, e1⟩).toArray)).run Tryd.prog w = .ok true w := he
  clear he
  have HIE := Lib.hid (info_e nA_ok)
  go_enter Tryd.func16, Tryd.ntmps16
  go_wp2_with (first
    | (refine wpList_build_eq rfl 81 [(0, .const (.string ⟨#[97]⟩)), (2, .tmp 4)] rfl [(0, .string sA), (2, .agg (e1.map (Value.int .u8)).toArray)] rfl _ (buildC2 sA e1 rfl _) ?_)
    | (refine wpList_slice_eq rfl 40 1 [(0, .tmp 5)] rfl [(0, .agg (cgL cA).toArray)] rfl _ _ (sliceC _ cA cA_ok) ?_; generalize hw0 : World.alloc w _ = w0; have hc0 : CgB w0 w.heap.size cA := (by rw [← hw0]; exact HCN.out); have hb0 : Below w.heap.size w w0 := (by rw [← hw0]; exact HB0.out); have HC0 := Lib.hid hc0; have HBL := Lib.hid hb0; clear hw0 hc0 hb0))
  have hlt : w.heap.size < w0.heap.size := (Array.getElem?_eq_some_iff.1 HC0.out).1
  have hcg : CgsIn w0 w0.heap.size (some ⟨w.heap.size, 0, none⟩) 1 1 [cA] := ⟨rfl, fun x hx => by rw [List.mem_singleton.1 hx]; exact cA_ok, fun _ => ⟨w.heap.size, 0, rfl, hlt, Nat.le_refl _, fun i x hi => by
    have hi0 : i = 0 := by have := (List.getElem?_eq_some_iff.1 hi).1; simp at this; omega
    subst hi0
    have : cA = x := by simpa using hi
    subst this
    exact HC0.out.all⟩⟩
  have hen : EnsIn w0 w0.heap.size none 0 0 [] := ⟨rfl, by simp, fun h => by omega⟩
  have hap := Apply_any none 0 0 [] (some ⟨w.heap.size, 0, none⟩) 1 1 [cA] w0 hen hcg (by omega) (by omega)
  rw [sApply_A] at hap
  have HAP := Lib.hid hap
  clear hap hcg hen
  refine HAP.out.mono ?_
  rintro e w1 ⟨sp1, cap1, rfl, ho1, hb1⟩
  have hens := ho1.ens rfl
  obtain ⟨g1, o1, rfl, hg1, hc1, hr1⟩ := hens.cells (Nat.lt_succ_self 0)
  have hrow := hr1 0 nA rfl
  rw [show o1 + 0 * 33 = o1 by omega] at hrow
  have HROW := Lib.hid hrow; have HENS := Lib.hid hens
  have HB1 := Lib.hid (HBL.out.trans (hb1.mono HBL.out.size))
  clear ho1 hb1 hens hr1 hrow
  go_wp2_with (first
    | (refine wpList_load_mid_g (by rfl) 70 _ rfl g1 o1 rfl _ _ HROW.out Tryd.underlying70 rfl HIE.out ?_)
    | (refine wpList_build_eq_g (by rfl) 70 [(0, .const (.string ⟨#[97]⟩)), (1, .tmp 21)] rfl [(0, .string sA), (1, .agg (e1.map (Value.int .u8)).toArray)] rfl _ (buildE sA e1 rfl _) ?_))
  have hv := Valid_any (some ⟨g1, o1, none⟩) 1 cap1 [nA] w1 HENS.out (by omega)
  rw [vldE_nA] at hv
  have HV := Lib.hid hv; clear hv
  refine HV.out.mono ?_
  rintro e w2 ⟨rfl, hb2⟩
  have HB2 := Lib.hid (HB1.out.trans (hb2.mono HB1.out.size)); clear hb2
  go_wp2_with fail
  go_ret
  exact ⟨rfl, HB2.out⟩
end Go.Proofs.YtkookkhlgllneaaDoor

namespace Go.Proofs.YtkookkhlgllneaaDoor
open Go.RowKit

def finR : Option (List En) → Except Int (List En)
  | none => .error 9
  | some m => if 64 < m.length then .error 3 else .ok m
def sRApply (s : List En) (l : List Cg) : Except Int (List En) := if vldE s && vldC l then finR (rapp s l) else .error 1
theorem finA_eq (o : Option (List Cg)) : finA o = finR (match o with | none => none | some m => if m.any needB then none else some (m.map toE)) := by
  cases o with
  | none => rfl
  | some m =>
    rw [finA_some]
    show _ = finR (if m.any needB then none else some (m.map toE))
    split
    · rfl
    · show _ = (if 64 < (m.map toE).length then (.error 3 : Except Int (List En)) else .ok (m.map toE))
      rw [List.length_map]
theorem sRApply_eq (s : List En) (l : List Cg) : sRApply s l = sApply s l := by
  unfold sRApply sApply
  by_cases h : (vldE s && vldC l) = true
  · rw [if_pos h, if_pos h]
    rw [Bool.and_eq_true] at h
    rw [← capp_eq (vldE_parts h.1).2.1 (vldC_parts h.2).2.1 (vldE_parts h.1).2.2 (vldC_parts h.2).2.2, finA_eq]
    rfl
  · rw [if_neg h, if_neg h]
theorem dg?_ok {s : List En} (h : ∀ x ∈ s, OkE x) (p : ByteArray) : D32 (dg? s p) := by
  unfold dg?
  cases e : fe s p with
  | none => exact D32.zed
  | some x => exact h x (fe_some e).1
theorem LookRes.uni {w w' : World} {s : List En} {p : ByteArray} {e : Ending} (h : LookRes w (fe s p) e w') : ∃ c : Bool, e = .returned (.tuple #[.agg ((dg? s p).map (Value.int .u8)).toArray, .bool c]) ∧ Below w.heap.size w w' := by
  unfold dg?
  cases k : fe s p with
  | none => rw [k] at h; exact ⟨false, h⟩
  | some x => rw [k] at h; exact ⟨true, h⟩
theorem FindRes.uni {w w' : World} {l : List Cg} {p : ByteArray} {e : Ending} (hl : ∀ x ∈ l, OkC x) (h : FindRes w (fd l p) e w') : ∃ y : Cg, OkC y ∧ e = .returned (.tuple #[.agg (cgL y).toArray, .bool (fd l p).isSome]) ∧ Below w.heap.size w w' := by
  cases k : fd l p with
  | none => rw [k] at h; exact ⟨⟨⟨#[]⟩, zed, zed⟩, zeroCg_ok, h⟩
  | some x => rw [k] at h; exact ⟨x, hl x (fd_some k).1, h⟩
/-- on the way through a round: a digest in a block of its own -/
structure DpS (w : World) (bx : Nat) (d : List Int) (W : World) : Prop where
  below : Below w.heap.size w W
  box : W.heap[bx]? = some (.cells (d.map (Value.int .u8)).toArray 28 (0, 0))
theorem DpS.lt {w : World} {bx : Nat} {d : List Int} {W : World} (h : DpS w bx d W) : bx < W.heap.size := (Array.getElem?_eq_some_iff.1 h.box).1
theorem DpS.next {w : World} {bx : Nat} {d : List Int} {W W' : World} (h : DpS w bx d W) (hb : Below W.heap.size W W') : DpS w bx d W' :=
  ⟨h.below.trans (hb.mono h.below.size), (hb.block bx h.lt).trans h.box⟩
theorem DpS.row {w : World} {bx : Nat} {d : List Int} {W : World} (h : DpS w bx d W) : W.rangeAt bx 0 (d.map (Value.int .u8)) := range_row (pre := []) (post := []) h.box (by simp) rfl
theorem hA_zero {x : Cg} (h : x.n = zed) : hA x = none := by unfold hA; rw [if_pos h]
theorem hA_new {x : Cg} (h : x.n ≠ zed) : hA x = some ⟨x.p, x.n⟩ := by unfold hA; rw [if_neg h]
theorem fold_step {α β : Type} {f : β → α → β} {l : List α} {i : β} {k : Nat} {x : α} {o : β} (h : (l.take k).foldl f i = o) (hx : l[k]? = some x) : (l.take (k + 1)).foldl f i = f o x := by
  rw [List.take_add_one, hx, List.foldl_append, h]; rfl
end Go.Proofs.YtkookkhlgllneaaDoor

namespace Go.Proofs.YtkookkhlgllneaaDoor
open Go.RowKit

def sRDiff (a b : List En) : Except Int (List Cg) := if vldE a && vldE b then .ok (rdif a b) else .error 1
theorem sRDiff_eq (a b : List En) : sRDiff a b = sDiff a b := by
  unfold sRDiff sDiff
  by_cases h : (vldE a && vldE b) = true
  · rw [if_pos h, if_pos h]
    rw [Bool.and_eq_true] at h
    rw [cdif_eq (vldE_parts h.1).2.1 (vldE_parts h.2).2.1 (vldE_parts h.1).2.2 (vldE_parts h.2).2.2]
  · rw [if_neg h, if_neg h]
theorem LookRes.unj {w w' : World} {s : List En} {p : ByteArray} {e : Ending} (h : LookRes w (fe s p) e w') : e = .returned (.tuple #[.agg ((dg? s p).map (Value.int .u8)).toArray, .bool (fe s p).isSome]) ∧ Below w.heap.size w w' := by
  unfold dg?
  cases k : fe s p with
  | none => rw [k] at h; exact h
  | some x => rw [k] at h; exact h
/-- on the way through a round: the list made so far, a digest in a block of its own -/
structure DqS (w : World) (v : Value) (out : List Cg) (bx : Nat) (d : List Int) (W : World) : Prop where
  own : OwnC W w.heap.size v out
  dp : DpS w bx d W
theorem DqS.next {w : World} {v : Value} {out : List Cg} {bx : Nat} {d : List Int} {W W' : World} (h : DqS w v out bx d W) (hb : Below W.heap.size W W') : DqS w v out bx d W' :=
  ⟨h.own.below hb, h.dp.next hb⟩
theorem hD1_some {b : List En} {x : En} (h : dg? b x.p ≠ x.d) : hD1 b x = some ⟨x.p, x.d, dg? b x.p⟩ := by unfold hD1; rw [if_neg h]
theorem hD1_none {b : List En} {x : En} (h : dg? b x.p = x.d) : hD1 b x = none := by unfold hD1; rw [if_pos h]
theorem hD2_none {a : List En} {y z : En} (h : fe a y.p = some z) : hD2 a y = none := by unfold hD2; rw [h]
theorem hD2_some {a : List En} {y : En} (h : fe a y.p = none) : hD2 a y = some ⟨y.p, zed, y.d⟩ := by unfold hD2; rw [h]
end Go.Proofs.YtkookkhlgllneaaDoor
