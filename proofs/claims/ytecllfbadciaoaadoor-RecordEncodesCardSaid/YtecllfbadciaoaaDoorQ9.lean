/-
  Lists of lines that a call makes (no condition).
-/
import Derived.Test.YtecllfbadciaoaaDoorZip
import Derived.Test.YtecllfbadciaoaaDoorQ8
set_option maxRecDepth 100000
set_option maxHeartbeats 8000000
namespace Go.Proofs.YtecllfbadciaoaaDoor
open Go.RowKit
theorem own_shapeL {w : World} {base e size : Nat} {v : Value} {n : Nat} {xs : List Value} (h : w.ownsRow base e size v n xs) : ∃ sp cap, v = .slice sp n cap := by
 obtain ⟨_, ⟨rfl, rfl⟩ | ⟨g, cap, cur, rfl, _⟩⟩ := h
 ·exact ⟨none, 0, rfl⟩
 ·exact ⟨_, cap, rfl⟩
theorem own_baseL {w : World} {base e size : Nat} {v : Value} {n : Nat} {xs : List Value} (h : w.ownsRow base e size v n xs) : ∀ k, v.ownBlock = some k → base ≤ k := fun k hk => (h.lt k hk).1
theorem own_belowL {w w' : World} {B e size n : Nat} {v : Value} {xs : List Value} (h : w.ownsRow B e size v n xs) (hb : Below w.heap.size w w') : w'.ownsRow B e size v n xs := by
 obtain ⟨h0, h1 | ⟨g, cap, cur, h1, h2, h3, h4⟩⟩ := h
 ·exact ⟨h0, .inl h1⟩
 ·exact ⟨h0, .inr ⟨g, cap, cur, h1, h2, (hb.block g (Array.getElem?_eq_some_iff.1 h3).1).trans h3, h4⟩⟩
theorem own_apartL {w : World} {b1 b2 e1 e2 s1 s2 : Nat} {v1 v2 : Value} {n1 n2 : Nat} {x1 x2 : List Value} (h1 : w.ownsRow b1 e1 s1 v1 n1 x1) (h2 : w.ownsRow b2 e2 s2 v2 n2 x2) (hne : e1 ≠ e2) : v1.ownBlock = none ∨ v1.ownBlock ≠ v2.ownBlock := by
 obtain ⟨_, ⟨rfl, _⟩ | ⟨g1, c1, u1, rfl, _, g1h, _⟩⟩ := h1
 ·exact .inl rfl
 ·obtain ⟨_, ⟨rfl, _⟩ | ⟨g2, c2, u2, rfl, _, g2h, _⟩⟩ := h2
  ·exact .inr (by simp [Value.ownBlock])
  ·refine .inr (fun e => hne ?_)
   have e' : g1 = g2 := by simpa [Value.ownBlock] using e
   subst e'
   rw [g1h] at g2h
   injection g2h with g2h
   injection g2h
theorem infoLnL : (Tryd.prog.info? 22).map (fun i => (i.zero, i.size, i.bytes)) = some (some (.slice none 0 0), 1, 24) := by kernel_rfl
def LnOwnL (w : World) (base : Nat) (q : Ln) : Prop := w.ownsRow base 9 1 (.slice q.sp q.n q.cap) q.n (q.l.map Value.string)
theorem lnOwn_new3 (w : World) (base : Nat) (hb : base ≤ w.heap.size) (a b c : ByteArray) : LnOwnL (w.alloc (.cells #[.string a, .string b, .string c] 9)) base ⟨some ⟨w.heap.size, 0, none⟩, 3, 3, [a, b, c]⟩ :=
 ⟨rfl, .inr ⟨w.heap.size, 3, _, rfl, hb, heap_alloc_new w _, Nat.le_refl _, by unfold maxLen; omega, rfl, rfl⟩⟩
theorem LnOwnL.strs {w : World} {base : Nat} {q : Ln} (h : LnOwnL w base q) : StrsIn w w.heap.size q.sp q.n q.l := by
 obtain ⟨hl, h2⟩ := h
 rw [List.length_map, Nat.mul_one] at hl
 refine ⟨hl, fun hn => ?_⟩
 rcases h2 with ⟨e, h0⟩ | ⟨g, cap, cur, e, hb, hg, hc, hm, hs, ht⟩
 ·omega
 ·injection e with e1 e2 e3
  refine ⟨g, 0, e1, (Array.getElem?_eq_some_iff.1 hg).1, fun j hj => ?_⟩
  rw [cell_of_row w g (0 + j) cur _ _ hg, Nat.zero_add]
  have h5 : (cur.toList.take (q.n * 1))[j]? = some (.string q.l[j]) := by rw [ht]; simp [hj]
  rw [List.getElem?_take, if_pos (by omega)] at h5
  simpa using h5
theorem lines_own {w : World} {base base' : Nat} {sp : Option Addr} {cap : Nat} {ls : List Ln} (h : w.ownsRow base 22 1 (.slice sp ls.length cap) ls.length (ls.map Ln.val)) (hq : ∀ q ∈ ls, LnOwnL w base' q) : LinesIn w w.heap.size sp ls.length ls := by
 obtain ⟨hl, h2⟩ := h
 refine ⟨rfl, fun hn => ?_, fun q hq' => (hq q hq').strs⟩
 rcases h2 with ⟨e, h0⟩ | ⟨g, cap', cur, e, hb, hg, hc, hm, hs, ht⟩
 ·omega
 ·injection e with e1 e2 e3
  refine ⟨g, 0, e1, (Array.getElem?_eq_some_iff.1 hg).1, fun j hj => ?_⟩
  rw [cell_of_row w g (0 + j) cur _ _ hg, Nat.zero_add]
  have h5 : (cur.toList.take (ls.length * 1))[j]? = some ls[j].val := by rw [ht]; simp [hj]
  rw [List.getElem?_take, if_pos (by omega)] at h5
  simpa using h5
structure LnsOwn (w : World) (base : Nat) (v : Value) (done : List Ln) : Prop where
 row : w.ownsRow base 22 1 v done.length (done.map Ln.val)
 each : ∀ q ∈ done, LnOwnL w base q
theorem LnsOwn.nil (w : World) (base : Nat) : LnsOwn w base (.slice none 0 0) [] := ⟨World.ownsRow_nil w base _ _, fun q hq => by cases hq⟩
theorem LnsOwn.below {w w' : World} {base : Nat} {v : Value} {done : List Ln} (h : LnsOwn w base v done) (hb : Below w.heap.size w w') : LnsOwn w' base v done :=
 ⟨own_belowL h.row hb, fun q hq => own_belowL (h.each q hq) hb⟩
theorem LnsOwn.lines {w : World} {base : Nat} {sp : Option Addr} {n cap : Nat} {done : List Ln} (h : LnsOwn w base (.slice sp n cap) done) (hn : done.length = n) : LinesIn w w.heap.size sp n done := by
 subst hn
 exact lines_own h.row h.each
theorem slice3 (w : World) (a b c : ByteArray) : (Instr.buildSlice 22 3 #[(0, .string a), (1, .string b), (2, .string c)]).run Tryd.prog w = .ok (.slice (some ⟨w.heap.size, 0, none⟩) 3 3) (w.alloc (.cells #[.string a, .string b, .string c] 9)) := by kernel_rfl
theorem slice1L (w : World) (g : Nat) : (Instr.buildSlice 50 1 #[(0, .slice (some ⟨g, 0, none⟩) 3 3)]).run Tryd.prog w = .ok (.slice (some ⟨w.heap.size, 0, none⟩) 1 1) (w.alloc (.cells #[.slice (some ⟨g, 0, none⟩) 3 3] 22)) := by kernel_rfl
theorem wp_append_lns {o : Oper} {a : Act} {w : World} {K : Act → World → Prop} {Q : Exit → Act → World → Prop} (s x : Operand)
 (ho : o.op = .call { callee := .builtin .append, args := #[s, x], argTypes := #[50, 50] }) (base : Nat) (v : Value) (done : List Ln) (n : Nat) (hn : n = done.length) (hs : a.eval s = v) (hown : LnsOwn w base v done)
 (g : Nat) (y : Ln) (hx : a.eval x = .slice (some ⟨g, 0, none⟩) 1 1) (hc : w.cell? ⟨g, 0, none⟩ = some y.val) (hy : LnOwnL w base y) (hlen : n ≤ 1000000) (hbase : base ≤ w.heap.size)
 (h : ∀ sp cap w', Hid (LnsOwn w' base (.slice sp (n + 1) cap) (done ++ [y])) → Hid (Below base w w') → Hid (w.grownBy w' v.ownBlock) → K (a.put o.dst (.slice sp (n + 1) cap)) w') : o.wp Tryd.prog a w K Q := by
 subst hn
 obtain ⟨i0, hi0, hz0, hz1, hz2⟩ := info_parts infoLnL
 refine wp_append_own w s x _ ho base _ i0 _ 1 24 Tryd.underlying50 hi0 hz0 hz1 hz2 rfl (by decide) v done.length _ hs hown.row ⟨g, 0, none⟩ 1 1 [y.val] hx rfl ?_ (by intro u hu; simp at hu; subst hu; rfl) (by unfold maxLen; omega) (by omega) hbase ?_
 ·intro j u hj
  have hj0 : j = 0 := by have := (List.getElem?_eq_some_iff.1 hj).1; simp at this; omega
  subst hj0
  simp at hj; subst hj; rw [Addr.add_mid]; exact hc
 ·intro v' w' h1 h2 _
  obtain ⟨sp, cap, rfl⟩ := own_shapeL h1
  refine h sp cap w' ⟨by rw [List.length_append, List.map_append]; exact h1, fun q hq => ?_⟩ ((Below.refl base w).grown h2 hbase (own_baseL hown.row)) h2
  have hq1 : LnOwnL w base q := by
   rcases List.mem_append.1 hq with h | h
   ·exact hown.each q h
   ·rw [List.mem_singleton.1 h]; exact hy
  exact World.ownsRow.kept hq1 h2 (own_apartL hq1 hown.row (by decide))
theorem EnB.keptL {w w' : World} {b base n : Nat} {x : En} {v : Value} {xs : List Value} (h : EnB w b x) (ho : w.ownsRow base 22 1 v n xs) (hg : w.grownBy w' v.ownBlock) : EnB w' b x := by
 refine (hg.block b (Array.getElem?_eq_some_iff.1 h).1 (fun e => ?_)).trans h
 obtain ⟨_, ⟨rfl, _⟩ | ⟨g, c, u, rfl, _, gh, _⟩⟩ := ho
 ·simp [Value.ownBlock] at e
 ·have e' : b = g := by simpa [Value.ownBlock] using e
  subst e'
  unfold EnB at h
  rw [gh] at h
  injection h with h
  injection h with _ h _
  exact absurd h (by decide)
theorem Lines_any (tag : ByteArray) (sp : Option Addr) (n cap : Nat) (l : List En) (w : World) (hl : EnsIn w w.heap.size sp n cap l) (hn : n ≤ 100000) :
 Calls Tryd.prog 15 #[.string tag, .slice sp n cap] w fun e w' => ∃ sp' cap' ls, e = .returned (.slice sp' n cap') ∧ ls.length = n ∧ wordsOf ls = l.map (lineE tag) ∧ LnsOwn w' w.heap.size (.slice sp' n cap') ls ∧ Below w.heap.size w w' := by
 have HL := zh hl
 clear hl
 obtain ⟨i0, hi0, hz0, hz1, hz2⟩ := info_parts infoLnL
 go_enter Tryd.func15, Tryd.ntmps15
 go_wp2_with (refine wpList_make_own w rfl _ _ 50 rfl w.heap.size 22 i0 _ 1 Tryd.underlying50 hi0 hz0 hz1 .i64 .i64 (n : Int) n rfl rfl rfl (by rw [hz2]; omega) (by unfold maxLen; omega) (Nat.le_refl _) ?_; intro w1 hown1 hg1)
 have HB1 := zh ((Below.refl w.heap.size w).grown hg1 (Nat.le_refl _) (fun k e => by cases e))
 have HO1 := zh hown1
 clear hg1 hown1 hi0 hz0 hz1 hz2
 go_loopw [5, 13] (fun v i wr => ∃ (k : Nat) (done : List Ln) (sp' : Option Addr) (cap' : Nat), k ≤ n ∧ i = .int .i64 k ∧ v = .slice sp' k cap' ∧ Hid (k = done.length) ∧ Hid (wordsOf done = (l.take k).map (lineE tag)) ∧ Hid (LnsOwn wr w.heap.size (.slice sp' k cap') done) ∧ Hid (Below w.heap.size w wr)) (fun _ i _ => n - (intOf i).toNat)
 case atStart => exact ⟨0, [], _, _, Nat.zero_le _, rfl, rfl, rfl, rfl, ⟨HO1.out, fun q hq => by cases hq⟩, HB1.out⟩
 case round =>
  clear HO1 HB1
  obtain ⟨k, done, sp', cap', hk, rfl, rfl, HKL, HWD, hown, hbe⟩ := hrel
  have hbs := hbe.out.size
  by_cases hlt : k < n
  ·have hd : decide ((k : Int) < (n : Int)) = true := by simp; omega
   obtain ⟨b, off, rfl, hbB, hcap, hr⟩ := HL.out.cells (by omega)
   have hkl : k < l.length := by rw [HL.out.len]; exact hlt
   obtain ⟨x, hx⟩ : ∃ x, l[k]? = some x := ⟨l[k], List.getElem?_eq_getElem hkl⟩
   have hok := HL.out.ok x (List.mem_of_getElem? hx)
   have HOK := zh hok
   have HFM : Hid (∀ W, Calls Tryd.prog 32 #[.agg (x.d.map (Value.int .u8)).toArray] W fun e w' => e = .returned (.string (fmtD x.d)) ∧ Below W.heap.size W w') := fun W => Format_any x.d W hok.1 hok.2
   have HT : Hid (∀ y : Ln, y.l = [tag, x.p, fmtD x.d] → wordsOf (done ++ [y]) = (l.take (k + 1)).map (lineE tag)) := by
    intro y hy
    rw [List.take_add_one, hx, List.map_append, ← HWD.out]
    simp [wordsOf, hy, lineE]
   have p1 : (0 : Int) ≤ (k : Int) := by omega
   have p2 : (k : Int) < (n : Int) := by omega
   have HR := zh (range_belowS (hr k x hx) hbe.out hbB)
   have HI := zh (info_e hok)
   have HS : Hid (33 = (enL x).toArray.size) := by show _ = _; rw [List.size_toArray, enL_length hok]
   clear hr hx hkl hok
   go_wp2_with (first
    | (refine wpList_load_mid rfl 46 _ rfl b (off + k * 33) rfl _ _ HR.out Tryd.underlying46 rfl HI.out ?_)
    | (refine wpList_store_row rfl 46 _ _ rfl wr.heap.size _ rfl rfl 46 _ (heap_alloc_new wr _) (by simpa using HI.out) (by simpa using HS.out) (Array.all_eq_true_iff_forall_mem.2 (by simpa using enL_one x)) ?_; rw [setRow_new]; generalize hw2 : World.alloc wr _ = w2; have he2 : EnB w2 wr.heap.size x := (by rw [← hw2]; exact heap_alloc_new _ _); have hb2 : Below wr.heap.size wr w2 := (by rw [← hw2]; exact (Below.refl _ _).alloc (Nat.le_refl _) _); have HE2 := zh he2; have HB2 := zh (hbe.out.trans (hb2.mono hbs)); have HO2 := zh (hown.out.below hb2); clear hw2 he2 hb2))
   refine wp_region_held_drew (S := fun w' => EnB w' wr.heap.size x) (by kernel_rfl) HE2.out (fun hHeld => ?_)
   refine zv 0 rfl ?_
   refine zv 1 rfl ?_
   refine zv 2 rfl ?_
   refine zx 3 rfl (v := ?_) ?_ ?_; rotate_left
   ·intro w' hSw; have h1 := hSw.p; go_simp; try with_reducible rfl
   refine zv 4 rfl ?_
   refine' zk 5 rfl (v := _) (yieldsIf_load_mid (by rfl) _ _ rfl _ _ rfl _ _ ?hS5n6 Tryd.underlying44 rfl (info_d HOK.out)) ?rest5n6
   case hS5n6 =>
    intro w' hSw
    exact hSw.d
   try simp only [Act.put, zA, zB, zC, zD, zY, zF]
   refine zr 6 rfl (fun K hK => ?_)
   go_simp
   with_reducible refine (HFM.out _).mono ?_
   rintro e w3 ⟨rfl, hb3⟩
   go_wp2_with fail
   refine hK.out _ _ (HE2.out.below (((Below.refl _ w2).drew).trans hb3) (Array.getElem?_eq_some_iff.1 HE2.out).1) fun _ => ?_; clear hK K
   try simp only [Act.put, zA, zB, zC, zD, zY, zF]
   have HB3 := zh (HB2.out.trans ((((Below.refl _ w2).drew).trans hb3).mono HB2.out.size))
   have HO3 := zh (HO2.out.below (((Below.refl _ w2).drew).trans hb3))
   have HS3 := zh (HE2.out.below (((Below.refl _ w2).drew).trans hb3) (Array.getElem?_eq_some_iff.1 HE2.out).1)
   clear hb3
   refine zr 7 rfl (fun K hK => ?_)
   rw [if_pos (by rfl)]
   refine wp_slice_eqS 22 3 [(0, .tmp 18), (1, .tmp 20), (2, .tmp 23)] rfl [(0, .string tag), (1, .string x.p), (2, .string (fmtD x.d))] rfl _ _ (slice3 _ tag x.p (fmtD x.d)) ?_
   generalize hw4 : World.alloc w3 _ = w4
   have hq4 : LnOwnL w4 w.heap.size ⟨some ⟨w3.heap.size, 0, none⟩, 3, 3, [tag, x.p, fmtD x.d]⟩ := by rw [← hw4]; exact lnOwn_new3 w3 _ (by have := HB3.out.size; omega) _ _ _
   have hb4 : Below w3.heap.size w3 w4 := by rw [← hw4]; exact (Below.refl _ _).alloc (Nat.le_refl _) _
   have HQ4 := zh hq4
   have HB4 := zh (HB3.out.trans (hb4.mono HB3.out.size))
   have HO4 := zh (HO3.out.below hb4)
   have HS4 := zh (HS3.out.below hb4 (Array.getElem?_eq_some_iff.1 HS3.out).1)
   clear hw4 hq4 hb4
   refine hK.out _ _ HS4.out fun _ => ?_; clear hK K
   try simp only [Act.put, zA, zB, zC, zD, zY, zF]
   refine zr 8 rfl (fun K hK => ?_)
   rw [if_pos (by rfl)]
   refine wp_slice_eqS 50 1 [(0, .tmp 24)] rfl [(0, .slice (some ⟨w3.heap.size, 0, none⟩) 3 3)] rfl _ _ (slice1L _ _) ?_
   generalize hw5 : World.alloc w4 _ = w5
   have hc5 : w5.cell? ⟨w4.heap.size, 0, none⟩ = some (Ln.val ⟨some ⟨w3.heap.size, 0, none⟩, 3, 3, [tag, x.p, fmtD x.d]⟩) := by rw [← hw5, cell_of_row _ w4.heap.size 0 _ _ _ (heap_alloc_new w4 _)]; rfl
   have hb5 : Below w4.heap.size w4 w5 := by rw [← hw5]; exact (Below.refl _ _).alloc (Nat.le_refl _) _
   have HC5 := zh hc5
   have HB5 := zh (HB4.out.trans (hb5.mono HB4.out.size))
   have HO5 := zh (HO4.out.below hb5)
   have HQ5 : Hid (LnOwnL w5 w.heap.size ⟨some ⟨w3.heap.size, 0, none⟩, 3, 3, [tag, x.p, fmtD x.d]⟩) := own_belowL HQ4.out hb5
   have hs5 := HB5.out.size
   have HS5 := zh (HS4.out.below hb5 (Array.getElem?_eq_some_iff.1 HS4.out).1)
   clear hw5 hc5 hb5
   refine hK.out _ _ HS5.out fun _ => ?_; clear hK K
   try simp only [Act.put, zA, zB, zC, zD, zY, zF]
   refine zr 9 rfl (fun K hK => ?_)
   rw [if_pos (by rfl)]
   refine wp_append_lns (.tmp 17) (.tmp 25) rfl w.heap.size _ done k HKL.out rfl HO5.out w4.heap.size ⟨some ⟨w3.heap.size, 0, none⟩, 3, 3, [tag, x.p, fmtD x.d]⟩ rfl HC5.out HQ5.out (by omega) (by omega) ?_
   intro sp6 cap6 w6 HO6 HB6 HG6
   have HB7 := zh (HB5.out.trans HB6.out)
   have HS6 := zh (HS5.out.keptL HO5.out.row HG6.out)
   refine hK.out _ _ HS6.out fun _ => ?_; clear hK K
   try simp only [Act.put, zA, zB, zC, zD, zY, zF]
   refine zv 10 rfl ?_
   refine zd ?_ _
   clear hHeld
   go_wp2_with fail
   go_roundw
   case rel => exact ⟨k + 1, done ++ [⟨some ⟨w3.heap.size, 0, none⟩, 3, 3, [tag, x.p, fmtD x.d]⟩], sp6, cap6, by omega, by go_num, rfl, by show _ = _; rw [List.length_append, ← HKL.out]; rfl, HT.out _ rfl, HO6, HB7⟩
   case measure => simp [intOf]; omega
  ·obtain rfl : k = n := by omega
   have hd : decide ((k : Int) < (k : Int)) = false := by simp
   have HTT : Hid ((l.take k).map (lineE tag) = l.map (lineE tag)) := by show _ = _; rw [List.take_of_length_le (by rw [HL.out.len]; exact Nat.le_refl _)]
   go_wp2_with fail
   go_ret
   exact ⟨sp', cap', done, rfl, HKL.out.symm, by rw [← HTT.out]; exact HWD.out, hown.out, hbe.out⟩
structure Blks (B : Nat) (w0 w : World) (l : List (Nat × Obj)) : Prop where
 b : Below B w0 w
 k : B ≤ w.heap.size
 h : ∀ p ∈ l, B ≤ p.1 ∧ p.1 < w.heap.size ∧ w.heap[p.1]? = some p.2
 nd : (l.map Prod.fst).Nodup
theorem Blks.start {B : Nat} {w0 w : World} (h : Below B w0 w) (hk : B ≤ w.heap.size) : Blks B w0 w [] := ⟨h, hk, by simp, by simp⟩
theorem Blks.drew {B : Nat} {w0 w : World} {l : List (Nat × Obj)} (h : Blks B w0 w l) : Blks B w0 w.drew l := ⟨h.b.drew, h.k, h.h, h.nd⟩
theorem Blks.call {B : Nat} {w0 w w' : World} {l : List (Nat × Obj)} (h : Blks B w0 w l) (hb : Below w.heap.size w w') : Blks B w0 w' l :=
 ⟨h.b.trans (hb.mono h.k), Nat.le_trans h.k hb.size, fun p hp => ⟨(h.h p hp).1, Nat.lt_of_lt_of_le (h.h p hp).2.1 hb.size, (hb.block _ (h.h p hp).2.1).trans (h.h p hp).2.2⟩, h.nd⟩
theorem Blks.alloc {B : Nat} {w0 w : World} {l : List (Nat × Obj)} (h : Blks B w0 w l) (o : Obj) : Blks B w0 (w.alloc o) ((w.heap.size, o) :: l) :=
 ⟨h.b.alloc h.k o, by simp; exact Nat.le_succ_of_le h.k, fun p hp => by
  rcases List.mem_cons.1 hp with rfl | hp
  ·exact ⟨h.k, by simp, heap_alloc_new w o⟩
  ·exact ⟨(h.h p hp).1, by simp; exact Nat.lt_succ_of_lt (h.h p hp).2.1, (heap_alloc_old w o (h.h p hp).2.1).trans (h.h p hp).2.2⟩, by
  rw [List.map_cons, List.nodup_cons]
  refine ⟨fun hm => ?_, h.nd⟩
  obtain ⟨p, hp, e⟩ := List.mem_map.1 hm
  have := (h.h p hp).2.1
  omega⟩
theorem Blks.at {B : Nat} {w0 w : World} {l : List (Nat × Obj)} (h : Blks B w0 w l) (i : Nat) {g : Nat} {o : Obj} (hi : l[i]? = some (g, o)) : w.heap[g]? = some o := (h.h (g, o) (List.mem_of_getElem? hi)).2.2
theorem Blks.lt {B : Nat} {w0 w : World} {l : List (Nat × Obj)} (h : Blks B w0 w l) (i : Nat) {g : Nat} {o : Obj} (hi : l[i]? = some (g, o)) : B ≤ g ∧ g < w.heap.size := ⟨(h.h (g, o) (List.mem_of_getElem? hi)).1, (h.h (g, o) (List.mem_of_getElem? hi)).2.1⟩
theorem Blks.ne {B : Nat} {w0 w : World} {l : List (Nat × Obj)} (h : Blks B w0 w l) (i j : Nat) {g g' : Nat} {o o' : Obj} (hi : l[i]? = some (g, o)) (hj : l[j]? = some (g', o')) (hij : i ≠ j) : g ≠ g' := fun e => by
 obtain ⟨h1, e1⟩ := List.getElem?_eq_some_iff.1 hi
 obtain ⟨h2, e2⟩ := List.getElem?_eq_some_iff.1 hj
 refine hij ((List.getElem_inj (i := i) (j := j) (h₀ := by simpa using h1) (h₁ := by simpa using h2) h.nd).1 ?_)
 rw [List.getElem_map, List.getElem_map, e1, e2]
 exact e
theorem Blks.set {B : Nat} {w0 w : World} {l : List (Nat × Obj)} (h : Blks B w0 w l) (i : Nat) {g : Nat} {cs : Array Value} {t : TypeId} (hi : l[i]? = some (g, .cells cs t (0, 0))) (ds : Array Value) :
 Blks B w0 (w.setRow g ds) (l.set i (g, .cells ds t (0, 0))) := by
 have hm := h.h _ (List.mem_of_getElem? hi)
 have hnew : (w.setRow g ds).heap[g]? = some (.cells ds t (0, 0)) := setRow_heap _ _ _ _ _ _ hm.2.2
 have hsz : (w.setRow g ds).heap.size = w.heap.size := by simp [World.setRow]
 refine ⟨below_setRow h.b hm.1 _, by rw [hsz]; exact h.k, fun p hp => ?_, ?_⟩
 ·obtain ⟨j, hj, e⟩ := List.getElem_of_mem hp
  rw [List.length_set] at hj
  rw [List.getElem_set] at e
  split at e
  ·subst e; exact ⟨hm.1, by rw [hsz]; exact hm.2.1, hnew⟩
  ·next hne =>
   have hq := h.h p (by rw [← e]; exact List.getElem_mem _)
   have hpg : p.1 ≠ g := fun e1 => by
    have := h.ne j i (g := p.1) (o := p.2) (by rw [List.getElem?_eq_getElem hj, e]) hi (fun e2 => hne e2.symm)
    exact this e1
   exact ⟨hq.1, by rw [hsz]; exact hq.2.1, (setRow_other _ _ _ _ hpg).trans hq.2.2⟩
 ·rw [List.map_set]
  obtain ⟨h1, e1⟩ := List.getElem?_eq_some_iff.1 hi
  have : (l.map Prod.fst).set i g = l.map Prod.fst := by
   apply List.ext_getElem
   ·simp
   ·intro j h2 h3
    rw [List.getElem_set]
    split
    ·next e => subst e; rw [List.getElem_map, e1]
    ·rfl
  rw [this]; exact h.nd
theorem Blks.allocd {B : Nat} {w0 w : World} {l : List (Nat × Obj)} (h : Blks B w0 w l) (o : Obj) : ∃ g1 w1, w.heap.size = g1 ∧ w.alloc o = w1 ∧ Hid (Blks B w0 w1 ((g1, o) :: l)) ∧ Hid (Below w.heap.size w w1) := ⟨_, _, rfl, rfl, h.alloc o, (Below.refl _ _).alloc (Nat.le_refl _) o⟩
theorem Blks.allocdD {B : Nat} {w0 w : World} {l : List (Nat × Obj)} (h : Blks B w0 w l) (o : Obj) : ∃ g1 w1, w.heap.size = g1 ∧ (w.alloc o).drew = w1 ∧ Hid (Blks B w0 w1 ((g1, o) :: l)) ∧ Hid (Below w.heap.size w w1) := ⟨_, _, rfl, rfl, (h.alloc o).drew, ((Below.refl _ _).alloc (Nat.le_refl _) o).drew⟩
end Go.Proofs.YtecllfbadciaoaaDoor
