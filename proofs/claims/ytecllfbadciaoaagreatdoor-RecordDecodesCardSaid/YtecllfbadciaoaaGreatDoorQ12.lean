/-
  The walk of snapshot.Lines (conditions: digests of 32 bytes, at most 100000 entries).
-/
import Derived.Test.YtecllfbadciaoaaGreatDoorZip
import Derived.Test.YtecllfbadciaoaaGreatDoorQ11
set_option maxRecDepth 100000
set_option maxHeartbeats 8000000
namespace Go.Proofs.YtecllfbadciaoaaGreatDoor
open Go.RowKit
theorem EnB.keptL {w w' : World} {b base n : Nat} {x : En} {v : Value} {xs : List Value} (h : EnB w b x) (ho : w.ownsRow base 27 1 v n xs) (hg : w.grownBy w' v.ownBlock) : EnB w' b x := by
 refine (hg.block b (Array.getElem?_eq_some_iff.1 h).1 (fun e => ?_)).trans h
 obtain ⟨_, ⟨rfl, _⟩ | ⟨g, c, u, rfl, _, gh, _⟩⟩ := ho
 ·simp [Value.ownBlock] at e
 ·have e' : b = g := by simpa [Value.ownBlock] using e
  subst e'
  unfold EnB at h
  rw [gh] at h
  injection h with h
  injection h with _ h _
  exact absurd h (by decide)
theorem Lines_any (tag : ByteArray) (sp : Option Addr) (n cap : Nat) (l : List En) (w : World) (hl : EnsIn w w.heap.size sp n cap l) (hn : n ≤ 100000) :
 Calls Tryz.prog 40 #[.string tag, .slice sp n cap] w fun e w' => ∃ sp' cap' ls, e = .returned (.slice sp' n cap') ∧ ls.length = n ∧ wordsOf ls = l.map (lineE tag) ∧ LnsOwn w' w.heap.size (.slice sp' n cap') ls ∧ Below w.heap.size w w' := by
 have HL := zh hl
 clear hl
 obtain ⟨i0, hi0, hz0, hz1, hz2⟩ := info_parts infoLnL
 go_enter Tryz.func40, Tryz.ntmps40
 go_wp2_with (refine wpList_make_own w rfl _ _ 59 rfl w.heap.size 27 i0 _ 1 Tryz.underlying59 hi0 hz0 hz1 .i64 .i64 (n : Int) n rfl rfl rfl (by rw [hz2]; omega) (by unfold maxLen; omega) (Nat.le_refl _) ?_; intro w1 hown1 hg1)
 have HB1 := zh ((Below.refl w.heap.size w).grown hg1 (Nat.le_refl _) (fun k e => by cases e))
 have HO1 := zh hown1
 clear hg1 hown1 hi0 hz0 hz1 hz2
 go_loopw [5, 13] (fun v i wr => ∃ (k : Nat) (done : List Ln) (sp' : Option Addr) (cap' : Nat), k ≤ n ∧ i = .int .i64 k ∧ v = .slice sp' k cap' ∧ Hid (k = done.length) ∧ Hid (wordsOf done = (l.take k).map (lineE tag)) ∧ Hid (LnsOwn wr w.heap.size (.slice sp' k cap') done) ∧ Hid (Below w.heap.size w wr)) (fun _ i _ => n - (intOf i).toNat)
 case atStart => exact ⟨0, [], _, _, Nat.zero_le _, rfl, rfl, rfl, rfl, ⟨HO1.out, fun q hq => by cases hq⟩, HB1.out⟩
 case round =>
  clear HO1 HB1
  obtain ⟨k, done, sp', cap', hk, rfl, rfl, HKL, HWD, hown, hbe⟩ := hrel
  have hbs := hbe.out.size
  by_cases hlt : k < n
  ·have hd : decide ((k : Int) < (n : Int)) = true := by simp; omega
   obtain ⟨b, off, rfl, hbB, hcap, hr⟩ := HL.out.cells (by omega)
   have hkl : k < l.length := by rw [HL.out.len]; exact hlt
   obtain ⟨x, hx⟩ : ∃ x, l[k]? = some x := ⟨l[k], List.getElem?_eq_getElem hkl⟩
   have hok := HL.out.ok x (List.mem_of_getElem? hx)
   have HOK := zh hok
   have HFM : Hid (∀ W, Calls Tryz.prog 76 #[.agg (x.d.map (Value.int .u8)).toArray] W fun e w' => e = .returned (.string (fmtD x.d)) ∧ Below W.heap.size W w') := fun W => Format_any x.d W hok.1 hok.2
   have HT : Hid (∀ y : Ln, y.l = [tag, x.p, fmtD x.d] → wordsOf (done ++ [y]) = (l.take (k + 1)).map (lineE tag)) := by
    intro y hy
    rw [List.take_add_one, hx, List.map_append, ← HWD.out]
    simp [wordsOf, hy, lineE]
   have p1 : (0 : Int) ≤ (k : Int) := by omega
   have p2 : (k : Int) < (n : Int) := by omega
   have HR := zh (range_belowS (hr k x hx) hbe.out hbB)
   have HI := zh (info_e hok)
   have HS : Hid (33 = (enL x).toArray.size) := by show _ = _; rw [List.size_toArray, enL_length hok]
   clear hr hx hkl hok
   go_wp2_with (first
    | (refine wpList_load_mid rfl 82 _ rfl b (off + k * 33) rfl _ _ HR.out Tryz.underlying82 rfl HI.out ?_)
    | (refine wpList_store_row rfl 82 _ _ rfl wr.heap.size _ rfl rfl 82 _ (heap_alloc_new wr _) (by simpa using HI.out) (by simpa using HS.out) (Array.all_eq_true_iff_forall_mem.2 (by simpa using enL_one x)) ?_; rw [setRow_new]; generalize hw2 : World.alloc wr _ = w2; have he2 : EnB w2 wr.heap.size x := (by rw [← hw2]; exact heap_alloc_new _ _); have hb2 : Below wr.heap.size wr w2 := (by rw [← hw2]; exact (Below.refl _ _).alloc (Nat.le_refl _) _); have HE2 := zh he2; have HB2 := zh (hbe.out.trans (hb2.mono hbs)); have HO2 := zh (hown.out.below hb2); clear hw2 he2 hb2))
   refine wp_region_held_drew (S := fun w' => EnB w' wr.heap.size x) (by kernel_rfl) HE2.out (fun hHeld => ?_)
   refine zv 0 rfl ?_
   refine zv 1 rfl ?_
   refine zv 2 rfl ?_
   refine zx 3 rfl (v := ?_) ?_ ?_; rotate_left
   ·intro w' hSw; have h1 := hSw.p; go_simp; try with_reducible rfl
   refine zv 4 rfl ?_
   refine' zk 5 rfl (v := _) (yieldsIf_load_mid (by rfl) _ _ rfl _ _ rfl _ _ ?hS5n6 Tryz.underlying80 rfl (info_d HOK.out)) ?rest5n6
   case hS5n6 =>
    intro w' hSw
    exact hSw.d
   try simp only [Act.put, zuA, zuB, zuC, zuD, zuY, zuF]
   refine zr 6 rfl (fun K hK => ?_)
   go_simp
   with_reducible refine (HFM.out _).mono ?_
   rintro e w3 ⟨rfl, hb3⟩
   go_wp2_with fail
   refine hK.out _ _ (HE2.out.below (((Below.refl _ w2).drew).trans hb3) (Array.getElem?_eq_some_iff.1 HE2.out).1) fun _ => ?_; clear hK K
   try simp only [Act.put, zuA, zuB, zuC, zuD, zuY, zuF]
   have HB3 := zh (HB2.out.trans ((((Below.refl _ w2).drew).trans hb3).mono HB2.out.size))
   have HO3 := zh (HO2.out.below (((Below.refl _ w2).drew).trans hb3))
   have HS3 := zh (HE2.out.below (((Below.refl _ w2).drew).trans hb3) (Array.getElem?_eq_some_iff.1 HE2.out).1)
   clear hb3
   refine zr 7 rfl (fun K hK => ?_)
   rw [if_pos (by rfl)]
   refine wp_slice_eqS 27 3 [(0, .tmp 18), (1, .tmp 20), (2, .tmp 23)] rfl [(0, .string tag), (1, .string x.p), (2, .string (fmtD x.d))] rfl _ _ (slice3 _ tag x.p (fmtD x.d)) ?_
   generalize hw4 : World.alloc w3 _ = w4
   have hq4 : LnOwnL w4 w.heap.size ⟨some ⟨w3.heap.size, 0, none⟩, 3, 3, [tag, x.p, fmtD x.d]⟩ := by rw [← hw4]; exact lnOwn_new3 w3 _ (by have := HB3.out.size; omega) _ _ _
   have hb4 : Below w3.heap.size w3 w4 := by rw [← hw4]; exact (Below.refl _ _).alloc (Nat.le_refl _) _
   have HQ4 := zh hq4
   have HB4 := zh (HB3.out.trans (hb4.mono HB3.out.size))
   have HO4 := zh (HO3.out.below hb4)
   have HS4 := zh (HS3.out.below hb4 (Array.getElem?_eq_some_iff.1 HS3.out).1)
   clear hw4 hq4 hb4
   refine hK.out _ _ HS4.out fun _ => ?_; clear hK K
   try simp only [Act.put, zuA, zuB, zuC, zuD, zuY, zuF]
   refine zr 8 rfl (fun K hK => ?_)
   rw [if_pos (by rfl)]
   refine wp_slice_eqS 59 1 [(0, .tmp 24)] rfl [(0, .slice (some ⟨w3.heap.size, 0, none⟩) 3 3)] rfl _ _ (slice1L _ _) ?_
   generalize hw5 : World.alloc w4 _ = w5
   have hc5 : w5.cell? ⟨w4.heap.size, 0, none⟩ = some (Ln.val ⟨some ⟨w3.heap.size, 0, none⟩, 3, 3, [tag, x.p, fmtD x.d]⟩) := by rw [← hw5, cell_of_row _ w4.heap.size 0 _ _ _ (heap_alloc_new w4 _)]; rfl
   have hb5 : Below w4.heap.size w4 w5 := by rw [← hw5]; exact (Below.refl _ _).alloc (Nat.le_refl _) _
   have HC5 := zh hc5
   have HB5 := zh (HB4.out.trans (hb5.mono HB4.out.size))
   have HO5 := zh (HO4.out.below hb5)
   have HQ5 : Hid (LnOwnL w5 w.heap.size ⟨some ⟨w3.heap.size, 0, none⟩, 3, 3, [tag, x.p, fmtD x.d]⟩) := own_belowL HQ4.out hb5
   have hs5 := HB5.out.size
   have HS5 := zh (HS4.out.below hb5 (Array.getElem?_eq_some_iff.1 HS4.out).1)
   clear hw5 hc5 hb5
   refine hK.out _ _ HS5.out fun _ => ?_; clear hK K
   try simp only [Act.put, zuA, zuB, zuC, zuD, zuY, zuF]
   refine zr 9 rfl (fun K hK => ?_)
   rw [if_pos (by rfl)]
   refine wp_append_lns (.tmp 17) (.tmp 25) rfl w.heap.size _ done k HKL.out rfl HO5.out w4.heap.size ⟨some ⟨w3.heap.size, 0, none⟩, 3, 3, [tag, x.p, fmtD x.d]⟩ rfl HC5.out HQ5.out (by omega) (by omega) ?_
   intro sp6 cap6 w6 HO6 HB6 HG6
   have HB7 := zh (HB5.out.trans HB6.out)
   have HS6 := zh (HS5.out.keptL HO5.out.row HG6.out)
   refine hK.out _ _ HS6.out fun _ => ?_; clear hK K
   try simp only [Act.put, zuA, zuB, zuC, zuD, zuY, zuF]
   refine zv 10 rfl ?_
   refine zd ?_ _
   clear hHeld
   go_wp2_with fail
   go_roundw
   case rel => exact ⟨k + 1, done ++ [⟨some ⟨w3.heap.size, 0, none⟩, 3, 3, [tag, x.p, fmtD x.d]⟩], sp6, cap6, by omega, by go_num, rfl, by show _ = _; rw [List.length_append, ← HKL.out]; rfl, HT.out _ rfl, HO6, HB7⟩
   case measure => simp [intOf]; omega
  ·obtain rfl : k = n := by omega
   have hd : decide ((k : Int) < (k : Int)) = false := by simp
   have HTT : Hid ((l.take k).map (lineE tag) = l.map (lineE tag)) := by show _ = _; rw [List.take_of_length_le (by rw [HL.out.len]; exact Nat.le_refl _)]
   go_wp2_with fail
   go_ret
   exact ⟨sp', cap', done, rfl, HKL.out.symm, by rw [← HTT.out]; exact HWD.out, hown.out, hbe.out⟩
structure Blks (B : Nat) (w0 w : World) (l : List (Nat × Obj)) : Prop where
 b : Below B w0 w
 k : B ≤ w.heap.size
 h : ∀ p ∈ l, B ≤ p.1 ∧ p.1 < w.heap.size ∧ w.heap[p.1]? = some p.2
 nd : (l.map Prod.fst).Nodup
theorem Blks.start {B : Nat} {w0 w : World} (h : Below B w0 w) (hk : B ≤ w.heap.size) : Blks B w0 w [] := ⟨h, hk, by simp, by simp⟩
theorem Blks.drew {B : Nat} {w0 w : World} {l : List (Nat × Obj)} (h : Blks B w0 w l) : Blks B w0 w.drew l := ⟨h.b.drew, h.k, h.h, h.nd⟩
theorem Blks.call {B : Nat} {w0 w w' : World} {l : List (Nat × Obj)} (h : Blks B w0 w l) (hb : Below w.heap.size w w') : Blks B w0 w' l :=
 ⟨h.b.trans (hb.mono h.k), Nat.le_trans h.k hb.size, fun p hp => ⟨(h.h p hp).1, Nat.lt_of_lt_of_le (h.h p hp).2.1 hb.size, (hb.block _ (h.h p hp).2.1).trans (h.h p hp).2.2⟩, h.nd⟩
theorem Blks.alloc {B : Nat} {w0 w : World} {l : List (Nat × Obj)} (h : Blks B w0 w l) (o : Obj) : Blks B w0 (w.alloc o) ((w.heap.size, o) :: l) :=
 ⟨h.b.alloc h.k o, by simp; exact Nat.le_succ_of_le h.k, fun p hp => by
  rcases List.mem_cons.1 hp with rfl | hp
  ·exact ⟨h.k, by simp, heap_alloc_new w o⟩
  ·exact ⟨(h.h p hp).1, by simp; exact Nat.lt_succ_of_lt (h.h p hp).2.1, (heap_alloc_old w o (h.h p hp).2.1).trans (h.h p hp).2.2⟩, by
  rw [List.map_cons, List.nodup_cons]
  refine ⟨fun hm => ?_, h.nd⟩
  obtain ⟨p, hp, e⟩ := List.mem_map.1 hm
  have := (h.h p hp).2.1
  omega⟩
theorem Blks.at {B : Nat} {w0 w : World} {l : List (Nat × Obj)} (h : Blks B w0 w l) (i : Nat) {g : Nat} {o : Obj} (hi : l[i]? = some (g, o)) : w.heap[g]? = some o := (h.h (g, o) (List.mem_of_getElem? hi)).2.2
theorem Blks.lt {B : Nat} {w0 w : World} {l : List (Nat × Obj)} (h : Blks B w0 w l) (i : Nat) {g : Nat} {o : Obj} (hi : l[i]? = some (g, o)) : B ≤ g ∧ g < w.heap.size := ⟨(h.h (g, o) (List.mem_of_getElem? hi)).1, (h.h (g, o) (List.mem_of_getElem? hi)).2.1⟩
theorem Blks.ne {B : Nat} {w0 w : World} {l : List (Nat × Obj)} (h : Blks B w0 w l) (i j : Nat) {g g' : Nat} {o o' : Obj} (hi : l[i]? = some (g, o)) (hj : l[j]? = some (g', o')) (hij : i ≠ j) : g ≠ g' := fun e => by
 obtain ⟨h1, e1⟩ := List.getElem?_eq_some_iff.1 hi
 obtain ⟨h2, e2⟩ := List.getElem?_eq_some_iff.1 hj
 refine hij ((List.getElem_inj (i := i) (j := j) (h₀ := by simpa using h1) (h₁ := by simpa using h2) h.nd).1 ?_)
 rw [List.getElem_map, List.getElem_map, e1, e2]
 exact e
theorem Blks.set {B : Nat} {w0 w : World} {l : List (Nat × Obj)} (h : Blks B w0 w l) (i : Nat) {g : Nat} {cs : Array Value} {t : TypeId} (hi : l[i]? = some (g, .cells cs t (0, 0))) (ds : Array Value) :
 Blks B w0 (w.setRow g ds) (l.set i (g, .cells ds t (0, 0))) := by
 have hm := h.h _ (List.mem_of_getElem? hi)
 have hnew : (w.setRow g ds).heap[g]? = some (.cells ds t (0, 0)) := setRow_heap _ _ _ _ _ _ hm.2.2
 have hsz : (w.setRow g ds).heap.size = w.heap.size := by simp [World.setRow]
 refine ⟨below_setRow h.b hm.1 _, by rw [hsz]; exact h.k, fun p hp => ?_, ?_⟩
 ·obtain ⟨j, hj, e⟩ := List.getElem_of_mem hp
  rw [List.length_set] at hj
  rw [List.getElem_set] at e
  split at e
  ·subst e; exact ⟨hm.1, by rw [hsz]; exact hm.2.1, hnew⟩
  ·next hne =>
   have hq := h.h p (by rw [← e]; exact List.getElem_mem _)
   have hpg : p.1 ≠ g := fun e1 => by
    have := h.ne j i (g := p.1) (o := p.2) (by rw [List.getElem?_eq_getElem hj, e]) hi (fun e2 => hne e2.symm)
    exact this e1
   exact ⟨hq.1, by rw [hsz]; exact hq.2.1, (setRow_other _ _ _ _ hpg).trans hq.2.2⟩
 ·rw [List.map_set]
  obtain ⟨h1, e1⟩ := List.getElem?_eq_some_iff.1 hi
  have : (l.map Prod.fst).set i g = l.map Prod.fst := by
   apply List.ext_getElem
   ·simp
   ·intro j h2 h3
    rw [List.getElem_set]
    split
    ·next e => subst e; rw [List.getElem_map, e1]
    ·rfl
  rw [this]; exact h.nd
theorem Blks.allocd {B : Nat} {w0 w : World} {l : List (Nat × Obj)} (h : Blks B w0 w l) (o : Obj) : ∃ g1 w1, w.heap.size = g1 ∧ w.alloc o = w1 ∧ Hid (Blks B w0 w1 ((g1, o) :: l)) ∧ Hid (Below w.heap.size w w1) := ⟨_, _, rfl, rfl, h.alloc o, (Below.refl _ _).alloc (Nat.le_refl _) o⟩
theorem Blks.allocdD {B : Nat} {w0 w : World} {l : List (Nat × Obj)} (h : Blks B w0 w l) (o : Obj) : ∃ g1 w1, w.heap.size = g1 ∧ (w.alloc o).drew = w1 ∧ Hid (Blks B w0 w1 ((g1, o) :: l)) ∧ Hid (Below w.heap.size w w1) := ⟨_, _, rfl, rfl, (h.alloc o).drew, ((Below.refl _ _).alloc (Nat.le_refl _) o).drew⟩
end Go.Proofs.YtecllfbadciaoaaGreatDoor
