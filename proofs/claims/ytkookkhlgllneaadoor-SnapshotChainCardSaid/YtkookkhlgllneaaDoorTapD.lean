/-
  The tape of the statements: the walk of Put (conditions: a snapshot in order, digests of 32 bytes, at most 400000 elements).
-/
import Derived.Test.YtkookkhlgllneaaDoorTapC
namespace Go.Proofs.YtkookkhlgllneaaDoor
open Go.RowKit

/-- what stands at a place, x at place k of F -/
def posL (F : List En) (x : En) (k i : Nat) : Option En := if i < k then F[i]? else if i = k then some x else F[i - 1]?
theorem posL_lt {F : List En} {x y : En} {k i : Nat} (h : i < k) (hy : F[i]? = some y) : posL F x k i = some y := by unfold posL; rw [if_pos h]; exact hy
theorem posL_at {F : List En} {x : En} {k : Nat} : posL F x k k = some x := by unfold posL; rw [if_neg (Nat.lt_irrefl _), if_pos rfl]
theorem posL_list (F : List En) (x : En) (k : Nat) (hk : k ≤ F.length) (i : Nat) : (F.take k ++ x :: F.drop k)[i]? = posL F x k i := by
  unfold posL
  have hl : (F.take k).length = k := by rw [List.length_take]; omega
  by_cases h : i < k
  · rw [if_pos h, List.getElem?_append_left (by omega), List.getElem?_take, if_pos h]
  · rw [if_neg h, List.getElem?_append_right (by omega), hl]
    by_cases h2 : i = k
    · subst h2; rw [if_pos rfl, Nat.sub_self]; rfl
    · rw [if_neg h2, show i - k = (i - k - 1) + 1 by omega, List.getElem?_cons_succ, List.getElem?_drop, show k + (i - k - 1) = i - 1 by omega]
theorem posL_swap {F : List En} {x : En} {k i : Nat} (h1 : i ≠ k) (h2 : i ≠ k + 1) : posL F x k i = posL F x (k + 1) i := by
  unfold posL
  by_cases h : i < k
  · rw [if_pos h, if_pos (by omega)]
  · rw [if_neg h, if_neg h1, if_neg (by omega), if_neg h2]
theorem posL_up {F : List En} {x : En} {k : Nat} : posL F x k (k + 1) = F[k]? := by
  unfold posL; rw [if_neg (by omega), if_neg (by omega), Nat.add_sub_cancel]
/-- the list in block g -/
structure RwP (w : World) (g N : Nat) (F : List En) (x : En) (k : Nat) : Prop where
  rng : ∀ i z, posL F x k i = some z → w.rangeAt g (i * 33) (enL z)
  there : w.there g 0 (N * 33)
theorem RwP.lt {w : World} {g N : Nat} {F : List En} {x : En} {k : Nat} (h : RwP w g N F x k) : g < w.heap.size := World.block_lt_of_cell? w _ (h.rng k x posL_at 0 _ rfl)
theorem there_below {w w' : World} {b o n : Nat} (h : w.there b o n) (hb : Below w.heap.size w w') (hlt : b < w.heap.size) : w'.there b o n := fun j hj =>
  ⟨by rw [hb.cell (p := ⟨b, o + j, none⟩) hlt]; exact (h j hj).1, by rw [hb.frozen (p := ⟨b, o + j, none⟩) hlt]; exact (h j hj).2⟩
theorem RwP.below {w w' : World} {g N : Nat} {F : List En} {x : En} {k : Nat} (h : RwP w g N F x k) (hb : Below w.heap.size w w') : RwP w' g N F x k :=
  ⟨fun i z hi => range_belowS (h.rng i z hi) hb h.lt, there_below h.there hb h.lt⟩
theorem there_sub {w : World} {g N i : Nat} (h : w.there g 0 (N * 33)) (hi : i < N) : w.there g (i * 33) 33 := fun j hj => by
  have := h (i * 33 + j) (by omega)
  simpa using this
theorem RwP.swap {w : World} {g N : Nat} {F : List En} {x y : En} {k : Nat} (h : RwP w g N F x (k + 1)) (hN : F.length + 1 = N) (hy : F[k]? = some y) (hF : ∀ z ∈ F, OkE z) (hx : OkE x) :
    RwP ((w.setCells g ((k + 1) * 33) (enL y)).setCells g (k * 33) (enL x)) g N F x k := by
  have hkl := (List.getElem?_eq_some_iff.1 hy).1
  have hyo := hF y (List.mem_of_getElem? hy)
  refine ⟨fun i z hi => ?_, World.there_setCells (World.there_setCells h.there _ _ _) _ _ _⟩
  have hz : OkE z := by
    unfold posL at hi
    split at hi
    · exact hF z (List.mem_of_getElem? hi)
    · split at hi
      · injection hi with hi; rw [← hi]; exact hx
      · exact hF z (List.mem_of_getElem? hi)
  have l1 := enL_length hx
  have l2 := enL_length hyo
  have l3 := enL_length hz
  by_cases h1 : i = k
  · subst h1
    rw [posL_at] at hi; injection hi with hi; subst hi
    refine World.rangeAt_setCells_same _ _ _ _ ?_
    rw [l1]
    exact there_sub (World.there_setCells h.there _ _ _) (by omega)
  · by_cases h2 : i = k + 1
    · subst h2
      rw [posL_up, hy] at hi; injection hi with hi; subst hi
      refine World.rangeAt_setCells_apart (World.rangeAt_setCells_same _ _ _ _ ?_) _ _ _ (.inr (.inr (by omega)))
      rw [l2]
      exact there_sub h.there (by omega)
    · rw [posL_swap h1 h2] at hi
      exact World.rangeAt_setCells_apart (World.rangeAt_setCells_apart (h.rng i z hi) _ _ _ (by omega)) _ _ _ (by omega)
theorem own_rw {w : World} {B : Nat} {v : Value} {F : List En} {x : En} (h : OwnE w B v (F ++ [x])) : ∃ g cap, v = .slice (some ⟨g, 0, none⟩) (F.length + 1) cap ∧ B ≤ g ∧ F.length + 1 ≤ cap ∧ RwP w g (F.length + 1) F x F.length := by
  obtain ⟨sp, cap, rfl⟩ := h.shape
  have hn : (F ++ [x]).length = F.length + 1 := by simp
  obtain ⟨_, ⟨e, e0⟩ | ⟨g, cap', cur, e, hB, hg, hle, _, hsz, _⟩⟩ := h.1
  · simp at e0
  · injection e with e1 e2 e3
    subst e1; subst e3
    have hens := (own_range (f := enL) h.1 (fun z hz => enL_length (h.2 z hz)) rfl)
    refine ⟨g, cap, by rw [hn], hB, by omega, fun i z hi => ?_, fun j hj => ?_⟩
    · have h3 := hens.2.2 i z (by
        have := posL_list F x F.length (Nat.le_refl _) i
        rw [List.take_length, List.drop_length] at this
        rw [this]; exact hi)
      rw [Nat.zero_add] at h3
      exact h3
    · have hj2 : j < cur.size := by
        have : (F.length + 1) * 33 ≤ cap * 33 := Nat.mul_le_mul_right _ (by omega)
        omega
      refine ⟨?_, frozen_of_row w g _ cur _ hg⟩
      rw [cell_of_row w g _ cur _ _ hg]
      simp [hj2]
theorem RwP.ens {w : World} {g N cap : Nat} {F : List En} {x : En} {k : Nat} (h : RwP w g N F x k) (hN : F.length + 1 = N) (hk : k ≤ F.length) (hF : ∀ z ∈ F, OkE z) (hx : OkE x) (hc : N ≤ cap) : EnsIn w w.heap.size (some ⟨g, 0, none⟩) N cap (F.take k ++ x :: F.drop k) :=
  ⟨by simp; omega, fun z hz => by
    rcases List.mem_append.1 hz with hz | hz
    · exact hF z (List.mem_of_mem_take hz)
    · rcases List.mem_cons.1 hz with rfl | hz
      · exact hx
      · exact hF z (List.mem_of_mem_drop hz), fun _ => ⟨g, 0, rfl, h.lt, hc, fun i z hi => by
    rw [posL_list F x k hk] at hi
    rw [Nat.zero_add]; exact h.rng i z hi⟩⟩
/-- the list without a path -/
def sansP (s : List En) (p : ByteArray) : List En := s.filter fun y => !decide (y.p = p)
theorem put_ins {F : List En} {x : En} {k : Nat} (hs : Srt En.p F) (hk : k ≤ F.length) (hne : ∀ y ∈ F, y.p ≠ x.p) (h1 : ∀ y ∈ F.drop k, pls x.p y.p = true) (h2 : ∀ j y, k = j + 1 → F[j]? = some y → pls x.p y.p = false) : ins En.p F x = F.take k ++ x :: F.drop k := by
  have e : F = F.take k ++ F.drop k := (List.take_append_drop k F).symm
  rw [ins_at (f := En.p) (a := F.take k) (b := F.drop k) (x := x) ?_ e ?_, List.append_assoc]
  · rfl
  · cases k with
    | zero => rfl
    | succ j =>
      obtain ⟨y, hy⟩ : ∃ y, F[j]? = some y := ⟨F[j]'(by omega), List.getElem?_eq_getElem _⟩
      have hyx : pls y.p x.p = true := by
        by_cases h : pls y.p x.p = true
        · exact h
        · exact absurd (pls_tri (by simpa using h) (h2 j y rfl hy)) (hne y (List.mem_of_getElem? hy))
      rw [List.all_eq_true]
      intro z hz
      rw [List.take_add_one, hy] at hz
      rcases List.mem_append.1 hz with hz | hz
      · obtain ⟨i, hi, rfl⟩ := List.getElem_of_mem hz
        have hi2 : i < j := by rw [List.length_take] at hi; omega
        have h3 := List.pairwise_iff_getElem.1 hs i j (by omega) (by omega) hi2
        rw [List.getElem_take]
        have e2 : F[j]'(by omega) = y := (List.getElem?_eq_some_iff.1 hy).2
        rw [e2] at h3
        exact pls_trans h3 hyx
      · have : z = y := by simpa using hz
        rw [this]; exact hyx
  · cases hd : F.drop k with
    | nil => rfl
    | cons z t =>
      have := h1 z (by rw [hd]; exact List.mem_cons_self)
      simp [pls_asymm this]
theorem below_setCells {B : Nat} {a w : World} (h : Below B a w) {g : Nat} (hg : B ≤ g) (o : Nat) (vs : List Value) : Below B a (w.setCells g o vs) := by
  induction vs generalizing w o with
  | nil => exact h
  | cons v vs ih => exact ih (h.setCell (p := ⟨g, o, none⟩) hg v) (o + 1)
theorem there_en {w : World} {g N i : Nat} {z : En} (h : w.there g 0 (N * 33)) (hi : i < N) (hz : OkE z) : w.there g (i * 33) (enL z).toArray.size := by rw [List.size_toArray, enL_length hz]; exact there_sub h hi
theorem sansP_ne {s : List En} {p : ByteArray} : ∀ y ∈ sansP s p, y.p ≠ p := fun y hy e => by
  unfold sansP at hy
  have := (List.mem_filter.1 hy).2
  simp [e] at this
theorem sansP_ok {s : List En} {p : ByteArray} (h : ∀ y ∈ s, OkE y) : ∀ y ∈ sansP s p, OkE y := fun y hy => h y (List.mem_filter.1 hy).1
theorem sansP_srt {s : List En} {p : ByteArray} (h : Srt En.p s) : Srt En.p (sansP s p) := List.Pairwise.filter _ h
theorem sansP_len (s : List En) (p : ByteArray) : (sansP s p).length ≤ s.length := List.length_filter_le _ _
/-- the snapshot in which a path has a digest -/
def putT (s : List En) (x : En) : List En := ins En.p (sansP s x.p) x
set_option maxRecDepth 100000 in
set_option maxHeartbeats 2000000 in
theorem Put_any (sp : Option Addr) (n cap : Nat) (l : List En) (x : En) (w : World) (hl : EnsIn w w.heap.size sp n cap l) (hs : Srt En.p l) (hx : OkE x) (hn : n ≤ 400000) :
    Calls Tryd.prog 58 #[.slice sp n cap, .agg (enL x).toArray] w fun e w' => ∃ g n' cap', e = .returned (.slice (some ⟨g, 0, none⟩) n' cap') ∧ w.heap.size ≤ g ∧ EnsIn w' w'.heap.size (some ⟨g, 0, none⟩) n' cap' (putT l x) ∧ Below w.heap.size w w' := by
  have HL := Lib.hid hl; have HOX := Lib.hid hx; have HSR := Lib.hid hs
  have HIX := Lib.hid (info_e hx)
  have HNW := Lib.hid (EnB.new w x)
  have hb0 : Below w.heap.size w (w.alloc (.cells (enL x).toArray 70)) := (Below.refl _ w).alloc (Nat.le_refl _) _
  have HB0 := Lib.hid hb0
  clear hl hx hb0 hs
  go_enter Tryd.func58, Tryd.ntmps58
  go_wp2_with fail
  generalize hw0 : World.alloc w _ = w0
  have hx0 : EnB w0 w.heap.size x := by rw [← hw0]; exact HNW.out
  have hbl0 : Below w.heap.size w w0 := by rw [← hw0]; exact HB0.out
  have hs0 : w.heap.size + 1 ≤ w0.heap.size := by rw [← hw0]; simp
  have HBX := Lib.hid hx0; have HBL0 := Lib.hid hbl0
  have HL := Lib.hid (HL.out.below hbl0 (Nat.le_refl _))
  clear hw0 hx0 hbl0 HNW HB0
  go_loopw [5, 6] (fun v i wr => ∃ (k N : Nat) (out : List En) (sp' : Option Addr) (cap' : Nat), k ≤ n ∧ N ≤ k ∧ i = .int .i64 k ∧ v = .slice sp' N cap' ∧ Hid (N = out.length) ∧ Hid (OwnE wr (w.heap.size + 1) (.slice sp' N cap') out) ∧ Hid (sansP (l.take k) x.p = out) ∧ Hid (Below (w.heap.size + 1) w0 wr)) (fun _ i _ => n - (intOf i).toNat)
  case atStart => exact ⟨0, 0, [], _, _, Nat.zero_le _, Nat.le_refl _, rfl, rfl, rfl, OwnE.nil _ _, rfl, Below.refl _ _⟩
  case round =>
  obtain ⟨k, N, out, sp', cap', hk, hNk, rfl, rfl, HN, hown, HG, hbe⟩ := hrel
  have hbs : w.heap.size + 1 ≤ wr.heap.size := Nat.le_trans hs0 hbe.out.size
  have hxp := (HBX.out.below hbe.out (Nat.lt_succ_self _)).p
  by_cases hlt : k < n
  · obtain ⟨y, hy⟩ : ∃ y, l[k]? = some y := ⟨l[k]'(by have := HL.out.len; omega), List.getElem?_eq_getElem _⟩
    have hd : decide ((k : Int) < (n : Int)) = true := by simp; omega
    obtain ⟨b, off, rfl, hbB, hcap, -⟩ := HL.out.cells (by omega)
    have hyr := range_belowS (HL.out.at hy).2 hbe.out (by omega)
    have hyp := rngE_p hyr
    have HYR := Lib.hid hyr
    have HOY := Lib.hid (HL.out.ok y (List.mem_of_getElem? hy))
    have HIY := Lib.hid (info_e HOY.out)
    have HST : Hid (sansP (l.take (k + 1)) x.p = if y.p = x.p then out else out ++ [y]) := by
      show _ = _
      unfold sansP
      rw [List.take_add_one, hy, List.filter_append]
      show sansP (l.take k) x.p ++ List.filter _ [y] = _
      rw [HG.out, List.filter_cons, List.filter_nil]
      by_cases h : y.p = x.p <;> simp [h]
    have p1 : (0 : Int) ≤ (k : Int) := by omega
    have p2 : (k : Int) < (n : Int) := by omega
    clear hy hyr
    by_cases hxe : y.p = x.p
    · have hte : (y.p.toList == x.p.toList) = true := by rw [hxe]; simp
      have HST2 : Hid (sansP (l.take (k + 1)) x.p = out) := by show _ = _; rw [HST.out, if_pos hxe]
      clear hxe
      go_wp2_with fail
      go_quiet (fail)
      generalize hwd : World.drewN wr nq = wd
      have hbd : Below wr.heap.size wr wd := by rw [← hwd]; exact ⟨rfl, rfl, rfl, Nat.le_refl _, fun _ _ => rfl⟩
      have HBD := Lib.hid (hbe.out.trans (hbd.mono hbs))
      have HOD := Lib.hid (hown.out.below hbd)
      clear hwd hbd
      go_wp2_with fail
      go_roundw
      case rel => exact ⟨k + 1, N, out, sp', cap', by omega, by omega, by go_num, rfl, HN, HOD, HST2, HBD⟩
      case measure => simp [intOf]; omega
    · have hte : (y.p.toList == x.p.toList) = false := by rw [beq_eq_false_iff_ne]; exact fun e => hxe (toList_inj e)
      have HST2 : Hid (sansP (l.take (k + 1)) x.p = out ++ [y]) := by show _ = _; rw [HST.out, if_neg hxe]
      clear hxe
      go_wp2_with fail
      go_quiet (fail)
      generalize hwd : World.drewN wr nq = wd
      have hbd : Below wr.heap.size wr wd := by rw [← hwd]; exact ⟨rfl, rfl, rfl, Nat.le_refl _, fun _ _ => rfl⟩
      have hsd : wd.heap.size = wr.heap.size := by rw [← hwd]; rfl
      have HBD := Lib.hid (hbe.out.trans (hbd.mono hbs))
      have HOD := Lib.hid (hown.out.below hbd)
      have HYD := Lib.hid (range_belowS HYR.out hbd (by omega))
      have hbsd : w.heap.size + 1 ≤ wd.heap.size := by omega
      clear hwd hbd hsd hxp hyp
      go_wp2_with (first
        | (refine wpList_load_mid rfl 70 _ rfl b (off + k * 33) rfl _ _ HYD.out Tryd.underlying70 rfl HIY.out ?_)
        | (refine wpList_slice_eq rfl 22 1 [(0, .tmp 26)] rfl [(0, .agg (enL y).toArray)] rfl _ _ (sliceE _ y HOY.out) ?_; generalize hw4 : World.alloc wd _ = w4; have he4 : EnB w4 wd.heap.size y := (by rw [← hw4]; exact heap_alloc_new _ _); have hb4 : Below wd.heap.size wd w4 := (by rw [← hw4]; exact (Below.refl _ _).alloc (Nat.le_refl _) _); have HE4 := Lib.hid he4; have HW4 := Lib.hid (HBD.out.trans (hb4.mono hbsd)); have HO4 := Lib.hid (HOD.out.below hb4); have hz4 := Nat.le_trans hbsd hb4.size; clear hw4 he4 hb4)
        | (at_builtin; refine wpList_append_en rfl (.tmp 22) (.tmp 27) rfl (w.heap.size + 1) _ _ N HN.out rfl HO4.out wd.heap.size y rfl HE4.out HOY.out (by omega) hz4 ?_; intro sp5 cap5 w5 HO5 HB5 HG5))
      have HB6 := Lib.hid (HW4.out.trans HB5.out)
      go_roundw
      case rel => exact ⟨k + 1, N + 1, out ++ [y], sp5, cap5, by omega, by omega, by go_num, rfl, by show _ = _; rw [List.length_append, HN.out]; rfl, HO5, HST2, HB6⟩
      case measure => simp [intOf]; omega
  · obtain rfl : k = n := by omega
    have hd : decide ((k : Int) < (k : Int)) = false := by simp
    have HF : Hid (sansP l x.p = out) := by have := HG.out; rw [List.take_of_length_le (by rw [HL.out.len]; exact Nat.le_refl _)] at this; exact this
    clear hlt
    have HXR := Lib.hid (HBX.out.below hbe.out (Nat.lt_succ_self _)).all
    clear hxp
    go_wp2_with (first
      | (refine wpList_load_mid rfl 70 _ rfl w.heap.size 0 rfl _ _ HXR.out Tryd.underlying70 rfl HIX.out ?_)
      | (refine wpList_slice_eq rfl 22 1 [(0, .tmp 30)] rfl [(0, .agg (enL x).toArray)] rfl _ _ (sliceE _ x HOX.out) ?_; generalize hw4 : World.alloc wr _ = w4; have he4 : EnB w4 wr.heap.size x := (by rw [← hw4]; exact heap_alloc_new _ _); have hb4 : Below wr.heap.size wr w4 := (by rw [← hw4]; exact (Below.refl _ _).alloc (Nat.le_refl _) _); have HE4 := Lib.hid he4; have HW4 := Lib.hid (hbe.out.trans (hb4.mono hbs)); have HO4 := Lib.hid (hown.out.below hb4); have hz4 := Nat.le_trans hbs hb4.size; clear hw4 he4 hb4)
      | (at_builtin; refine wpList_append_en rfl (.tmp 29) (.tmp 31) rfl (w.heap.size + 1) _ _ N HN.out rfl HO4.out wr.heap.size x rfl HE4.out HOX.out (by omega) hz4 ?_; intro sp5 cap5 w5 HO5 HB5 HG5))
    obtain ⟨g, cap2, hv, hBg, hcap5, hrw⟩ := own_rw HO5.out
    injection hv with hv1 hv2 hv3
    subst hv1
    subst hv3
    have HB6 := Lib.hid (HW4.out.trans HB5.out)
    have HRW0 : Hid (RwP w5 g (N + 1) out x N) := by show RwP _ _ _ _ _ _; rw [HN.out]; exact hrw
    have HCP : Hid (N + 1 ≤ cap5) := by show _ ≤ _; rw [HN.out]; exact hcap5
    have hgB : w.heap.size + 1 ≤ g := hBg
    have HOO : Hid (∀ z ∈ out, OkE z) := by show ∀ z ∈ out, OkE z; rw [← HF.out]; exact sansP_ok HL.out.ok
    have HNE : Hid (∀ z ∈ out, z.p ≠ x.p) := by show ∀ z ∈ out, z.p ≠ x.p; rw [← HF.out]; exact sansP_ne
    have HSO : Hid (Srt En.p out) := by show Srt En.p out; rw [← HF.out]; exact sansP_srt HSR.out
    have HPT : Hid (putT l x = ins En.p out x) := by show _ = _; unfold putT; rw [HF.out]
    have hkk : N ≤ 400000 := by omega
    clear hv2 hrw HO4 HE4 HW4 hz4 HG5 hown hbe hd HXR
    go_loopw [7] (fun i wr => ∃ q : Nat, i = .int .i64 q ∧ q ≤ N ∧ Hid (RwP wr g (N + 1) out x q) ∧ Hid (∀ y ∈ out.drop q, pls x.p y.p = true) ∧ Hid (Below (w.heap.size + 1) w0 wr)) (fun i _ => (intOf i).toNat)
    case atStart => exact ⟨N, by go_num, Nat.le_refl _, HRW0, by show ∀ y ∈ out.drop N, _; rw [HN.out, List.drop_length]; intro y hy; (cases hy), HB6⟩
    case round =>
    clear HRW0 HB6
    obtain ⟨q, rfl, hq, HRW, HDR, hbe⟩ := hrel
    have HEND : Hid (∀ wd, Below wr.heap.size wr wd → (∀ j y, q = j + 1 → out[j]? = some y → pls x.p y.p = false) → EnsIn wd wd.heap.size (some ⟨g, 0, none⟩) (N + 1) cap5 (putT l x) ∧ Below w.heap.size w wd) := by
      intro wd hb h2
      have e := put_ins HSO.out (by rw [← HN.out]; exact hq) HNE.out HDR.out h2
      rw [HPT.out, e]
      have hbw : Below w.heap.size w wr := HBL0.out.trans (hbe.out.mono (Nat.le_succ _))
      exact ⟨(HRW.out.below hb).ens (by rw [HN.out]) (by rw [← HN.out]; exact hq) HOO.out HOX.out HCP.out, hbw.trans (hb.mono hbw.size)⟩
    have hbs2 : w.heap.size + 1 ≤ wr.heap.size := Nat.le_trans hs0 hbe.out.size
    cases q with
    | zero =>
      have hd0 : decide ((0 : Int) > 0) = false := by simp
      go_wp2_with fail
      go_quiet (fail)
      generalize hwd : World.drewN wr nq = wd
      have hbd : Below wr.heap.size wr wd := by rw [← hwd]; exact ⟨rfl, rfl, rfl, Nat.le_refl _, fun _ _ => rfl⟩
      have HE := Lib.hid (HEND.out wd hbd (fun j y h => by omega))
      clear hwd hbd
      go_wp2_with fail
      go_ret
      exact ⟨g, _, _, rfl, by omega, HE.out.1, HE.out.2⟩
    | succ j =>
      obtain ⟨y, hy⟩ : ∃ y, out[j]? = some y := ⟨out[j]'(by have := HN.out; omega), List.getElem?_eq_getElem _⟩
      have HY := Lib.hid hy
      have HOY := Lib.hid (HOO.out y (List.mem_of_getElem? hy))
      have HIY := Lib.hid (info_e HOY.out)
      have hyp := rngE_p (HRW.out.rng j y (posL_lt (Nat.lt_succ_self _) hy))
      have hxp := rngE_p (HRW.out.rng (j + 1) x posL_at)
      have q1 : IntKind.i64.wrap (j : Int) = (j : Int) := IntWalk.i64_in _ (by omega)
      have q6 : ((j : Int) + 1).toNat = j + 1 := by omega
      have p1 : (0 : Int) ≤ (j : Int) + 1 := by omega
      have p2 : (j : Int) + 1 < (N : Int) + 1 := by omega
      have p3 : (0 : Int) ≤ (j : Int) := by omega
      have p4 : (j : Int) < (N : Int) + 1 := by omega
      have p5 : (0 : Int) < (j : Int) + 1 := by omega
      have hd1 : decide ((j : Int) + 1 > 0) = true := decide_eq_true (by omega)
      clear hy
      obtain ⟨c, hc⟩ : ∃ c, pls x.p y.p = c := ⟨_, rfl⟩
      have hlt2 : Op.bytesLess x.p.toList y.p.toList = c := hc
      have HC := Lib.hid hc
      clear hc
      rw [show ((j + 1 : Nat) : Int) = (j : Int) + 1 from by omega]
      go_wp2_with fail
      go_quiet (fail)
      generalize hwd : World.drewN wr nq = wd
      have hbd : Below wr.heap.size wr wd := by rw [← hwd]; exact ⟨rfl, rfl, rfl, Nat.le_refl _, fun _ _ => rfl⟩
      have HBDR := Lib.hid hbd
      clear hwd hbd hlt2
      cases c with
      | false =>
        have HE := Lib.hid (HEND.out wd HBDR.out (fun j' y' h h2 => by
          have : j' = j := by omega
          subst this
          rw [HY.out] at h2; injection h2 with h2; rw [← h2]; exact HC.out))
        go_wp2_with fail
        go_ret
        exact ⟨g, _, _, rfl, by omega, HE.out.1, HE.out.2⟩
      | true =>
        have HRWD := Lib.hid (HRW.out.below (HBDR.out.drew))
        have HB9 := Lib.hid ((hbe.out.trans (HBDR.out.mono hbs2)).drew)
        have HIYs : Hid ((Tryd.prog.info? 70).map (·.size) = some (enL y).toArray.size) := by show _ = _; rw [List.size_toArray]; exact HIY.out
        have HIXs : Hid ((Tryd.prog.info? 70).map (·.size) = some (enL x).toArray.size) := by show _ = _; rw [List.size_toArray]; exact HIX.out
        have HRW2 : Hid (RwP ((wd.drew.setCells g ((j + 1) * 33) (enL y).toArray.toList).setCells g (j * 33) (enL x).toArray.toList) g (N + 1) out x j) := HRWD.out.swap (by rw [HN.out]) HY.out HOO.out HOX.out
        have HBW2 : Hid (Below (w.heap.size + 1) w0 ((wd.drew.setCells g ((j + 1) * 33) (enL y).toArray.toList).setCells g (j * 33) (enL x).toArray.toList)) := below_setCells (below_setCells HB9.out hgB _ _) hgB _ _
        have HDR2 : Hid (∀ y ∈ out.drop j, pls x.p y.p = true) := by
          show ∀ y ∈ out.drop j, pls x.p y.p = true
          intro z hz
          have hjl := (List.getElem?_eq_some_iff.1 HY.out).1
          rw [List.drop_eq_getElem_cons hjl] at hz
          rcases List.mem_cons.1 hz with h | h
          · rw [h, (List.getElem?_eq_some_iff.1 HY.out).2]; exact HC.out
          · exact HDR.out z h
        clear hyp hxp
        go_wp2_with fail
        refine wp_region_held_drew (S := fun w' => True) (by kernel_rfl) trivial (fun hHeld => ?_)
        refine wpAnyH_take (i := 0) (oi := _) (v := ?v0n1) rfl (by kernel_rfl) (by kernel_rfl) (by kernel_rfl) (fun _ _ _ h => h) (Or.inl ⟨by rfl, ?hy0n1⟩) (by assumption) ?rest0n1
        case hy0n1 =>
          intro w' hSw
          go_simp
          try with_reducible rfl
        try simp only [Act.put, List.getElem_toArray, List.getElem_cons_succ, List.getElem_cons_zero, List.setIfInBounds_toArray, List.set_cons_zero, List.set_cons_succ]
        refine wpAnyH_take (i := 1) (oi := _) (v := ?v1n2) rfl (by kernel_rfl) (by kernel_rfl) (by kernel_rfl) (fun _ _ _ h => h) (Or.inl ⟨by rfl, ?hy1n2⟩) (by assumption) ?rest1n2
        case hy1n2 =>
          intro w' hSw
          go_simp
          try with_reducible rfl
        try simp only [Act.put, List.getElem_toArray, List.getElem_cons_succ, List.getElem_cons_zero, List.setIfInBounds_toArray, List.set_cons_zero, List.set_cons_succ]
        refine wpAnyH_take (i := 2) (oi := _) (v := ?v2n3) rfl (by kernel_rfl) (by kernel_rfl) (by kernel_rfl) (fun _ _ _ h => h) (Or.inl ⟨by rfl, ?hy2n3⟩) (by assumption) ?rest2n3
        case hy2n3 =>
          intro w' hSw
          go_simp
          try with_reducible rfl
        try simp only [Act.put, List.getElem_toArray, List.getElem_cons_succ, List.getElem_cons_zero, List.setIfInBounds_toArray, List.set_cons_zero, List.set_cons_succ]
        refine wpAnyH_take (i := 3) (oi := _) (v := ?v3n4) rfl (by kernel_rfl) (by kernel_rfl) (by kernel_rfl) (fun _ _ _ h => h) (Or.inl ⟨by rfl, ?hy3n4⟩) (by assumption) ?rest3n4
        case hy3n4 =>
          intro w' hSw
          go_simp
          try with_reducible rfl
        try simp only [Act.put, List.getElem_toArray, List.getElem_cons_succ, List.getElem_cons_zero, List.setIfInBounds_toArray, List.set_cons_zero, List.set_cons_succ]
        refine wpAnyH_take (i := 4) (oi := _) (v := ?v4n5) rfl (by kernel_rfl) (by kernel_rfl) (by kernel_rfl) (fun _ _ _ h => h) (Or.inl ⟨by rfl, ?hy4n5⟩) (by assumption) ?rest4n5
        case hy4n5 =>
          intro w' hSw
          go_simp
          try with_reducible rfl
        try simp only [Act.put, List.getElem_toArray, List.getElem_cons_succ, List.getElem_cons_zero, List.setIfInBounds_toArray, List.set_cons_zero, List.set_cons_succ]
        refine wpAnyH_take (i := 5) (oi := _) (v := ?v5n6) rfl (by kernel_rfl) (by kernel_rfl) (by kernel_rfl) (fun _ _ _ h => h) (Or.inl ⟨by rfl, ?hy5n6⟩) (by assumption) ?rest5n6
        case hy5n6 =>
          intro w' hSw
          go_simp
          try with_reducible rfl
        try simp only [Act.put, List.getElem_toArray, List.getElem_cons_succ, List.getElem_cons_zero, List.setIfInBounds_toArray, List.set_cons_zero, List.set_cons_succ]
        refine wpAnyH_take (i := 6) (oi := _) (v := ?v6n7) rfl (by kernel_rfl) (by kernel_rfl) (by kernel_rfl) (fun _ _ _ h => h) (Or.inl ⟨by rfl, ?hy6n7⟩) (by assumption) ?rest6n7
        case hy6n7 =>
          intro w' hSw
          go_simp
          try with_reducible rfl
        try simp only [Act.put, List.getElem_toArray, List.getElem_cons_succ, List.getElem_cons_zero, List.setIfInBounds_toArray, List.set_cons_zero, List.set_cons_succ]
        refine wpAnyH_take (i := 7) (oi := _) (v := ?v7n8) rfl (by kernel_rfl) (by kernel_rfl) (by kernel_rfl) (fun _ _ _ h => h) (Or.inl ⟨by rfl, ?hy7n8⟩) (by assumption) ?rest7n8
        case hy7n8 =>
          intro w' hSw
          go_simp
          try with_reducible rfl
        try simp only [Act.put, List.getElem_toArray, List.getElem_cons_succ, List.getElem_cons_zero, List.setIfInBounds_toArray, List.set_cons_zero, List.set_cons_succ]
        refine wpAnyH_take (i := 8) (oi := _) (v := ?v8n9) rfl (by kernel_rfl) (by kernel_rfl) (by kernel_rfl) (fun _ _ _ h => h) (Or.inl ⟨by rfl, ?hy8n9⟩) (by assumption) ?rest8n9
        case hy8n9 =>
          intro w' hSw
          go_simp
          try with_reducible rfl
        try simp only [Act.put, List.getElem_toArray, List.getElem_cons_succ, List.getElem_cons_zero, List.setIfInBounds_toArray, List.set_cons_zero, List.set_cons_succ]
        refine wpAnyH_take (i := 10) (oi := _) (v := ?v10n10) rfl (by kernel_rfl) (by kernel_rfl) (by kernel_rfl) (fun _ _ _ h => h) (Or.inl ⟨by rfl, ?hy10n10⟩) (by assumption) ?rest10n10
        case hy10n10 =>
          intro w' hSw
          go_simp
          try with_reducible rfl
        try simp only [Act.put, List.getElem_toArray, List.getElem_cons_succ, List.getElem_cons_zero, List.setIfInBounds_toArray, List.set_cons_zero, List.set_cons_succ]
        refine wpAnyH_take (i := 11) (oi := _) (v := ?v11n11) rfl (by kernel_rfl) (by kernel_rfl) (by kernel_rfl) (fun _ _ _ h => h) (Or.inl ⟨by rfl, ?hy11n11⟩) (by assumption) ?rest11n11
        case hy11n11 =>
          intro w' hSw
          go_simp
          try with_reducible rfl
        try simp only [Act.put, List.getElem_toArray, List.getElem_cons_succ, List.getElem_cons_zero, List.setIfInBounds_toArray, List.set_cons_zero, List.set_cons_succ]
        refine wpAnyH_take (i := 12) (oi := _) (v := ?v12n12) rfl (by kernel_rfl) (by kernel_rfl) (by kernel_rfl) (fun _ _ _ h => h) (Or.inl ⟨by rfl, ?hy12n12⟩) (by assumption) ?rest12n12
        case hy12n12 =>
          intro w' hSw
          go_simp
          try with_reducible rfl
        try simp only [Act.put, List.getElem_toArray, List.getElem_cons_succ, List.getElem_cons_zero, List.setIfInBounds_toArray, List.set_cons_zero, List.set_cons_succ]
        refine wpAnyH_ready (rs := [9, 13]) (by kernel_rfl) (by simp) (AllReadyH.cons (o := _) rfl (fun K hK => ?_) (AllReadyH.cons (o := _) rfl (fun K hK => ?_) AllReadyH.nil))
        · rw [if_pos (by rfl)]
          refine wp_load_mid 70 (.tmp 62) rfl g (j * 33) (by rfl) _ _ (HRWD.out.rng j y (posL_lt (Nat.lt_succ_self _) HY.out)) Tryd.underlying70 rfl HIY.out ?_
          refine hK.out _ _ trivial (fun hHeld => ?_)
          clear hK K
          try simp only [Act.put, List.getElem_toArray, List.getElem_cons_succ, List.getElem_cons_zero, List.setIfInBounds_toArray, List.set_cons_zero, List.set_cons_succ]
          refine wpAnyH_ready (rs := [13]) (by kernel_rfl) (by simp) (AllReadyH.cons (o := _) rfl (fun K hK => ?_) AllReadyH.nil)
          rw [if_pos (by rfl)]
          refine wp_load_mid 70 (.tmp 66) rfl g ((j + 1) * 33) (by rfl) _ _ (HRWD.out.rng (j + 1) x posL_at) Tryd.underlying70 rfl HIX.out ?_
          refine hK.out _ _ trivial (fun hHeld => ?_)
          clear hK K
          try simp only [Act.put, List.getElem_toArray, List.getElem_cons_succ, List.getElem_cons_zero, List.setIfInBounds_toArray, List.set_cons_zero, List.set_cons_succ]
          refine wpAnyH_take (i := 14) (oi := _) (v := ?v14n13) rfl (by kernel_rfl) (by kernel_rfl) (by kernel_rfl) (fun _ _ _ h => h) (Or.inl ⟨by rfl, ?hy14n13⟩) (by assumption) ?rest14n13
          case hy14n13 =>
            intro w' hSw
            go_simp
            try with_reducible rfl
          try simp only [Act.put, List.getElem_toArray, List.getElem_cons_succ, List.getElem_cons_zero, List.setIfInBounds_toArray, List.set_cons_zero, List.set_cons_succ]
          refine wpAnyH_ready (rs := [15]) (by kernel_rfl) (by simp) (AllReadyH.cons (o := _) rfl (fun K hK => ?_) AllReadyH.nil)
          rw [if_pos (by rfl)]
          refine wp_store_mid 70 (.tmp 68) (.tmp 63) rfl g ((j + 1) * 33) (enL y).toArray (by rfl) (by rfl) (there_en HRWD.out.there (by omega) HOY.out) HIYs.out (enA_one _) ?_
          refine hK.out _ _ trivial (fun hHeld => ?_)
          clear hK K
          try simp only [Act.put, List.getElem_toArray, List.getElem_cons_succ, List.getElem_cons_zero, List.setIfInBounds_toArray, List.set_cons_zero, List.set_cons_succ]
          refine wpAnyH_take (i := 16) (oi := _) (v := ?v16n14) rfl (by kernel_rfl) (by kernel_rfl) (by kernel_rfl) (fun _ _ _ h => h) (Or.inl ⟨by rfl, ?hy16n14⟩) (by assumption) ?rest16n14
          case hy16n14 =>
            intro w' hSw
            go_simp
            try with_reducible rfl
          try simp only [Act.put, List.getElem_toArray, List.getElem_cons_succ, List.getElem_cons_zero, List.setIfInBounds_toArray, List.set_cons_zero, List.set_cons_succ]
          refine wpAnyH_ready (rs := [17]) (by kernel_rfl) (by simp) (AllReadyH.cons (o := _) rfl (fun K hK => ?_) AllReadyH.nil)
          rw [if_pos (by rfl)]
          refine wp_store_mid 70 (.tmp 69) (.tmp 67) rfl g (j * 33) (enL x).toArray (by rfl) (by rfl) (World.there_setCells (there_en HRWD.out.there (by omega) HOX.out) _ _ _) HIXs.out (enA_one _) ?_
          refine hK.out _ _ trivial (fun hHeld => ?_)
          clear hK K
          try simp only [Act.put, List.getElem_toArray, List.getElem_cons_succ, List.getElem_cons_zero, List.setIfInBounds_toArray, List.set_cons_zero, List.set_cons_succ]
          refine wpAnyH_done (by kernel_rfl) ?_ _
          clear hHeld
          go_wp2_with fail
          go_roundw
          case rel => exact ⟨j, by go_num, by omega, HRW2, HDR2, HBW2⟩
          case measure => simp [intOf]
        · rw [if_pos (by rfl)]
          refine wp_load_mid 70 (.tmp 66) rfl g ((j + 1) * 33) (by rfl) _ _ (HRWD.out.rng (j + 1) x posL_at) Tryd.underlying70 rfl HIX.out ?_
          refine hK.out _ _ trivial (fun hHeld => ?_)
          clear hK K
          try simp only [Act.put, List.getElem_toArray, List.getElem_cons_succ, List.getElem_cons_zero, List.setIfInBounds_toArray, List.set_cons_zero, List.set_cons_succ]
          refine wpAnyH_ready (rs := [9]) (by kernel_rfl) (by simp) (AllReadyH.cons (o := _) rfl (fun K hK => ?_) AllReadyH.nil)
          rw [if_pos (by rfl)]
          refine wp_load_mid 70 (.tmp 62) rfl g (j * 33) (by rfl) _ _ (HRWD.out.rng j y (posL_lt (Nat.lt_succ_self _) HY.out)) Tryd.underlying70 rfl HIY.out ?_
          refine hK.out _ _ trivial (fun hHeld => ?_)
          clear hK K
          try simp only [Act.put, List.getElem_toArray, List.getElem_cons_succ, List.getElem_cons_zero, List.setIfInBounds_toArray, List.set_cons_zero, List.set_cons_succ]
          refine wpAnyH_take (i := 14) (oi := _) (v := ?v14n15) rfl (by kernel_rfl) (by kernel_rfl) (by kernel_rfl) (fun _ _ _ h => h) (Or.inl ⟨by rfl, ?hy14n15⟩) (by assumption) ?rest14n15
          case hy14n15 =>
            intro w' hSw
            go_simp
            try with_reducible rfl
          try simp only [Act.put, List.getElem_toArray, List.getElem_cons_succ, List.getElem_cons_zero, List.setIfInBounds_toArray, List.set_cons_zero, List.set_cons_succ]
          refine wpAnyH_ready (rs := [15]) (by kernel_rfl) (by simp) (AllReadyH.cons (o := _) rfl (fun K hK => ?_) AllReadyH.nil)
          rw [if_pos (by rfl)]
          refine wp_store_mid 70 (.tmp 68) (.tmp 63) rfl g ((j + 1) * 33) (enL y).toArray (by rfl) (by rfl) (there_en HRWD.out.there (by omega) HOY.out) HIYs.out (enA_one _) ?_
          refine hK.out _ _ trivial (fun hHeld => ?_)
          clear hK K
          try simp only [Act.put, List.getElem_toArray, List.getElem_cons_succ, List.getElem_cons_zero, List.setIfInBounds_toArray, List.set_cons_zero, List.set_cons_succ]
          refine wpAnyH_take (i := 16) (oi := _) (v := ?v16n16) rfl (by kernel_rfl) (by kernel_rfl) (by kernel_rfl) (fun _ _ _ h => h) (Or.inl ⟨by rfl, ?hy16n16⟩) (by assumption) ?rest16n16
          case hy16n16 =>
            intro w' hSw
            go_simp
            try with_reducible rfl
          try simp only [Act.put, List.getElem_toArray, List.getElem_cons_succ, List.getElem_cons_zero, List.setIfInBounds_toArray, List.set_cons_zero, List.set_cons_succ]
          refine wpAnyH_ready (rs := [17]) (by kernel_rfl) (by simp) (AllReadyH.cons (o := _) rfl (fun K hK => ?_) AllReadyH.nil)
          rw [if_pos (by rfl)]
          refine wp_store_mid 70 (.tmp 69) (.tmp 67) rfl g (j * 33) (enL x).toArray (by rfl) (by rfl) (World.there_setCells (there_en HRWD.out.there (by omega) HOX.out) _ _ _) HIXs.out (enA_one _) ?_
          refine hK.out _ _ trivial (fun hHeld => ?_)
          clear hK K
          try simp only [Act.put, List.getElem_toArray, List.getElem_cons_succ, List.getElem_cons_zero, List.setIfInBounds_toArray, List.set_cons_zero, List.set_cons_succ]
          refine wpAnyH_done (by kernel_rfl) ?_ _
          clear hHeld
          go_wp2_with fail
          go_roundw
          case rel => exact ⟨j, by go_num, by omega, HRW2, HDR2, HBW2⟩
          case measure => simp [intOf]
end Go.Proofs.YtkookkhlgllneaaDoor
