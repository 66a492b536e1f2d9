/-
  Envelopes: the walk of the reference's Join (conditions: the arguments read as envelopes within the statements' bounds).
-/
import Derived.Test.YtcligodahogpkaaGreatDoorZip
import Derived.Test.YtcligodahogpkaaGreatDoorEnvX
import Derived.Test.YtcligodahogpkaaGreatDoorEnvT
set_option maxRecDepth 100000
set_option maxHeartbeats 8000000
namespace Go.Proofs.YtcligodahogpkaaGreatDoor
open Go.RowKit Go.Proofs.YtcligodahogpkaaGreatDoor.One
theorem JN {s t : ByteArray} (h : s.toList = t.toList) : s = t := by
 rw [Lib.toList_data, Lib.toList_data] at h
 cases s; cases t; congr; exact Array.toList_inj.1 h
theorem GJ {t t' : ByteArray} {b b' : List UInt8} {L M : List Pg} (h : fL t b L = false ∨ fL t' b' M = false) : jnV t t' b b' L M = vQ 1 := by
 have e : jnE t t' b b' L M = 1 := by unfold jnE; rw [if_pos h]
 unfold jnV; rw [e, if_neg (by omega)]
theorem GI {t t' : ByteArray} {b b' : List UInt8} {L M : List Pg} (h1 : fL t b L = true) (h2 : fL t' b' M = true) (h : t ≠ t' ∨ b ≠ b') : jnV t t' b b' L M = vQ 9 := by
 have e : jnE t t' b b' L M = 9 := by unfold jnE; rw [if_neg (by rw [h1, h2]; simp), if_pos h]
 unfold jnV; rw [e, if_neg (by omega)]
theorem OQ {t : ByteArray} {b : List UInt8} {L M : List Pg} (h1 : fL t b L = true) (h2 : fL t b M = true) (h : 8 < (jnL (eI t b) L M).length) : jnV t t b b L M = vQ 3 := by
 have e : jnE t t b b L M = 3 := by unfold jnE; rw [if_neg (by rw [h1, h2]; simp), if_neg (by simp), if_pos h]
 unfold jnV; rw [e, if_neg (by omega)]
theorem OR {t : ByteArray} {b : List UInt8} {L M : List Pg} (h1 : fL t b L = true) (h2 : fL t b M = true) (h : ¬ 8 < (jnL (eI t b) L M).length) : jnV t t b b L M = ⟨0, t, b, jnL (eI t b) L M⟩ := by
 have e : jnE t t b b L M = 0 := by unfold jnE; rw [if_neg (by rw [h1, h2]; simp), if_neg (by simp), if_neg h]
 unfold jnV; rw [if_pos e]
structure JbX (w : World) (EA EB : Array Value) (w' : World) : Prop where
 a : w'.heap[w.heap.size]? = some (.cells EA 25 (0, 0))
 c : w'.heap[w.heap.size + 1]? = some (.cells EB 25 (0, 0))
 y : w'.heap[w.heap.size + 2]? = some (.cells zEn 25 (0, 0))
 b : Below w.heap.size w w'
 k : w.heap.size + 3 ≤ w'.heap.size
theorem JbX.new (w : World) (EA EB : Array Value) : JbX w EA EB (((w.alloc (.cells EA 25)).alloc (.cells EB 25)).alloc (.cells zEn 25)) := by
 have h1 := heap_alloc_new w (.cells EA 25)
 have h2 := heap_alloc_new (w.alloc (.cells EA 25)) (.cells EB 25)
 have h3 := heap_alloc_new ((w.alloc (.cells EA 25)).alloc (.cells EB 25)) (.cells zEn 25)
 rw [World.size_alloc] at h2
 rw [World.size_alloc, World.size_alloc] at h3
 exact ⟨(heap_alloc_old _ _ (by simp only [World.size_alloc]; omega)).trans ((heap_alloc_old _ _ (by simp)).trans h1), (heap_alloc_old _ _ (by simp)).trans h2, h3, (((Below.refl _ _).alloc (Nat.le_refl _) _).alloc (by simp) _).alloc (by simp only [World.size_alloc]; omega) _, by simp only [World.size_alloc]; omega⟩
theorem JbX.below {w : World} {EA EB : Array Value} {w1 w2 : World} (h : JbX w EA EB w1) (hb : Below w1.heap.size w1 w2) : JbX w EA EB w2 := by
 have h1 := h.k; have h2 := hb.size
 exact ⟨(hb.block _ (by omega)).trans h.a, (hb.block _ (by omega)).trans h.c, (hb.block _ (by omega)).trans h.y, h.b.trans (hb.mono (by omega)), by omega⟩
theorem JbX.belowB {w : World} {EA EB : Array Value} {w1 w2 : World} {D : Nat} (h : JbX w EA EB w1) (hb : Below D w1 w2) (hD : w.heap.size + 3 ≤ D) : JbX w EA EB w2 := by
 have h1 := h.k; have h2 := hb.size
 exact ⟨(hb.block _ (by omega)).trans h.a, (hb.block _ (by omega)).trans h.c, (hb.block _ (by omega)).trans h.y, h.b.trans (hb.mono (by omega)), by omega⟩
structure JrS (w : World) (EA EB : Array Value) (t : ByteArray) (P : Value) (go D : Nat) (s : Value) (l l1 l2 : List Sg) (wr : World) : Prop where
 j : JbX w EA EB wr
 o : wr.heap[go]? = some (.cells (enA t P s) 25 (0, 0))
 g : OwnG wr D s l
 m : ∀ y ∈ l, y ∈ l1 ∨ y ∈ l2
 k : D ≤ wr.heap.size
theorem JrS.below {w : World} {EA EB : Array Value} {t : ByteArray} {P : Value} {go D : Nat} {s : Value} {l l1 l2 : List Sg} {wr w2 : World} (h : JrS w EA EB t P go D s l l1 l2 wr) (hb : Below wr.heap.size wr w2) (hg : go < D) : JrS w EA EB t P go D s l l1 l2 w2 :=
 ⟨h.j.below hb, (hb.block _ (by have := h.k; omega)).trans h.o, h.g.below hb, h.m, Nat.le_trans h.k hb.size⟩
theorem JrS.of {w : World} {EA EB : Array Value} {t : ByteArray} {P s s' : Value} {go D : Nat} {l' l1 l2 : List Sg} {wr : World} (hj : JbX w EA EB wr) (ho : wr.heap[go]? = some (.cells (enA t P s) 25 (0, 0))) (hD : D ≤ wr.heap.size) (hg : OwnG wr D s' l') (hm : ∀ y ∈ l', y ∈ l1 ∨ y ∈ l2) (hgo : w.heap.size + 3 ≤ go) : JrS w EA EB t P go D s' l' l1 l2 (wr.setCell ⟨go, 2, none⟩ s') := by
 have h2 := heap_setCell_same wr go 2 _ _ s' ho
 rw [qO] at h2
 have hle := gB wr ⟨go, 2, none⟩ s'
 have hk := hj.k
 exact ⟨⟨(heap_setCell_other wr ⟨go, 2, none⟩ _ _ (by show w.heap.size ≠ go; omega)).trans hj.a, (heap_setCell_other wr ⟨go, 2, none⟩ _ _ (by show w.heap.size + 1 ≠ go; omega)).trans hj.c, (heap_setCell_other wr ⟨go, 2, none⟩ _ _ (by show w.heap.size + 2 ≠ go; omega)).trans hj.y, hj.b.setCell (p := ⟨go, 2, none⟩) (by show w.heap.size ≤ go; omega) _, by omega⟩, h2, ⟨World.ownsRow.kept hg.1 (aR _ _ _ _) (cF hg.1 ho (by decide)), hg.2⟩, hm, Nat.le_trans hD hle⟩
theorem JrS.setS {w : World} {EA EB : Array Value} {t : ByteArray} {P s s' : Value} {go D : Nat} {l l' l1 l2 : List Sg} {wr : World} (h : JrS w EA EB t P go D s l l1 l2 wr) (hg : OwnG wr D s' l') (hm : ∀ y ∈ l', y ∈ l1 ∨ y ∈ l2) (hgo : w.heap.size + 3 ≤ go) : JrS w EA EB t P go D s' l' l1 l2 (wr.setCell ⟨go, 2, none⟩ s') := JrS.of h.j h.o h.k hg hm hgo
theorem OwnG.setW {w : World} {D gS n cap : Nat} {l : List Sg} (h : OwnG w D (.slice (some ⟨gS, 0, none⟩) n cap) l) (hn : l.length = n) {k : Nat} (hk : k < n) {x' : Sg} (hr : OkG x') : OwnG (w.setCells gS (k * 20) (bB x')) D (.slice (some ⟨gS, 0, none⟩) n cap) (l.set k x') := by
 have ho := h.1
 rw [hn] at ho
 have hkl : k < l.length := by omega
 have hlen : (aT (l.take k)).length = k * 20 := by
  have := iE bB 20 (l.take k) (fun z hz => aE (h.2 z (List.mem_of_mem_take hz)))
  rw [List.length_take, Nat.min_eq_left (by omega)] at this
  exact this
 have e1 : aT l = aT (l.take k) ++ (bB l[k] ++ aT (l.drop (k + 1))) := by
  have : l = l.take k ++ l[k] :: l.drop (k + 1) := by rw [List.getElem_cons_drop, List.take_append_drop]
  conv => lhs; rw [this]
  rw [dJ]; rfl
 have e2 : aT (l.set k x') = aT (l.take k) ++ (bB x' ++ aT (l.drop (k + 1))) := by
  rw [List.set_eq_take_append_cons_drop, if_pos hkl, dJ]; rfl
 have h1 := nV (bB x') (k * 20) w _ ho
 rw [e1, ← hlen, nU _ _ _ _ (by rw [aE hr, aE (h.2 _ (List.getElem_mem _))]), ← e2, hlen] at h1
 refine ⟨by rw [List.length_set, hn]; exact h1, fun y hy => ?_⟩
 rcases List.mem_or_eq_of_mem_set hy with h2 | rfl
 ·exact h.2 y h2
 ·exact hr
theorem JrS.setL {w : World} {EA EB : Array Value} {t : ByteArray} {P : Value} {go D gS n cap : Nat} {l l' l1 l2 : List Sg} {wr : World} (h : JrS w EA EB t P go D (.slice (some ⟨gS, 0, none⟩) n cap) l l1 l2 wr) (o : Nat) (cs : List Value) (hg : OwnG (wr.setCells gS o cs) D (.slice (some ⟨gS, 0, none⟩) n cap) l') (hm : ∀ y ∈ l', y ∈ l1 ∨ y ∈ l2) (hgo : w.heap.size + 3 ≤ go) (hD : go < D) : JrS w EA EB t P go D (.slice (some ⟨gS, 0, none⟩) n cap) l' l1 l2 (wr.setCells gS o cs) := by
 have hb := bP h.g.1 gS rfl
 have hle := oG (g := gS) cs o wr
 exact ⟨⟨(cU gS _ (by omega) cs o wr).trans h.j.a, (cU gS _ (by omega) cs o wr).trans h.j.c, (cU gS _ (by omega) cs o wr).trans h.j.y, eJ (by omega) cs o wr h.j.b, Nat.le_trans h.j.k hle⟩, (cU gS _ (by omega) cs o wr).trans h.o, hg, hm, Nat.le_trans h.k hle⟩
theorem yX (t : ByteArray) (sp : Option Addr) (n cap : Nat) (b : List UInt8) (sq : Option Addr) (m cq : Nat) (l : List Sg) (t' : ByteArray) (sp' : Option Addr) (n' cap' : Nat) (b' : List UInt8) (sq' : Option Addr) (m' cq' : Nat) (l' : List Sg) (w : World) (ha : EvX w t sp n cap b sq m cq l) (hb : EvX w t' sp' n' cap' b' sq' m' cq' l') :
 Calls Tryz.prog 10 #[.agg (enA t (.slice sp n cap) (.slice sq m cq)), .agg (enA t' (.slice sp' n' cap') (.slice sq' m' cq'))] w (JnR (jnV t t' b b' (l.map pg) (l'.map pg)) w) := by
 have HA := zh ha; have HB := zh hb
 clear ha hb
 have HJ := zh (JbX.new w (enA t (.slice sp n cap) (.slice sq m cq)) (enA t' (.slice sp' n' cap') (.slice sq' m' cq')))
 obtain ⟨V, hV⟩ : ∃ V, jnV t t' b b' (l.map pg) (l'.map pg) = V := ⟨_, rfl⟩
 rw [hV]
 have HV := zh hV
 clear hV
 go_enter Tryz.func10, Tryz.ntmps10
 go_upto_region 1 with fail
 generalize hw0 : World.alloc (World.alloc (World.alloc w _) _) _ = w0
 have HJ0 : Hid (JbX w (enA t (.slice sp n cap) (.slice sq m cq)) (enA t' (.slice sp' n' cap') (.slice sq' m' cq')) w0) := by rw [← hw0]; exact HJ.out
 clear hw0 HJ
 have hk0 := HJ0.out.k
 have HUP : Hid (∀ w', Below w.heap.size w w' → EvX w' t sp n cap b sq m cq l ∧ EvX w' t' sp' n' cap' b' sq' m' cq' l') := fun w' hb => ⟨HA.out.below hb, HB.out.below hb⟩
 have HC1 := zh (kL t sp n cap b sq m cq l w0 (HUP.out w0 HJ0.out.b).1.tl (HUP.out w0 HJ0.out.b).1.p (HUP.out w0 HJ0.out.b).1.s)
 go_wp2_with (refine wpList_load_row rfl 25 _ rfl w.heap.size rfl 25 _ (0, 0) _ HJ0.out.a Tryz.underlying25 rfl (aF _ _ _) ?_)
 refine HC1.out.mono ?_
 rintro e w1 ⟨rfl, hb1⟩
 have HJ1 : Hid (JbX w (enA t (.slice sp n cap) (.slice sq m cq)) (enA t' (.slice sp' n' cap') (.slice sq' m' cq')) w1) := HJ0.out.below hb1
 clear hb1 HC1 HJ0 hk0
 have hk1 := HJ1.out.k
 cases hv1 : fL t b (l.map pg)
 ·have HVE : Hid (V = vQ 1) := HV.out.symm.trans (GJ (.inl hv1))
  clear hv1
  go_wp2_with (refine wpList_store_row rfl 25 _ _ rfl (w.heap.size + 2) zEn rfl rfl 25 _ HJ1.out.y (aF ⟨#[]⟩ aK aK) rfl (bX ⟨#[]⟩ none 0 0 none 0 0) ?_; generalize hw8 : World.setRow w1 _ _ = w8; have HY8 : Hid (w8.heap[w.heap.size + 2]? = some (.cells zEn 25 (0, 0))) := (by rw [← hw8]; exact setRow_heap _ _ _ _ _ _ HJ1.out.y); have HB8 : Hid (Below w.heap.size w w8) := (by rw [← hw8]; exact below_setRow HJ1.out.b (by omega) _); clear hw8)
  exact bodyPost_ret (aQ (P := Tryz.prog) rfl _ _ (w.heap.size + 2) 25 _ (0, 0) _ rfl HY8.out Tryz.underlying25 rfl (aF _ _ _)) rfl (by rw [HVE.out]; exact JnR.err HB8.out)
 have HV1 := zh hv1
 clear hv1
 have HC2 := zh (kL t' sp' n' cap' b' sq' m' cq' l' w1 (HUP.out w1 HJ1.out.b).2.tl (HUP.out w1 HJ1.out.b).2.p (HUP.out w1 HJ1.out.b).2.s)
 have HRB := zh (aO (L := (enL t' (.slice sp' n' cap') (.slice sq' m' cq'))) HJ1.out.c)
 go_wp2_with (refine aX (by rfl) 25 _ rfl (w.heap.size + 1) 0 rfl _ _ HRB.out Tryz.underlying25 rfl (fR _ _ _) ?_)
 refine HC2.out.mono ?_
 rintro e w2 ⟨rfl, hb2⟩
 have HJ2 : Hid (JbX w (enA t (.slice sp n cap) (.slice sq m cq)) (enA t' (.slice sp' n' cap') (.slice sq' m' cq')) w2) := HJ1.out.below hb2
 clear hb2 HC2 HJ1 HRB hk1
 have hk2 := HJ2.out.k
 cases hv2 : fL t' b' (l'.map pg)
 ·have HVE : Hid (V = vQ 1) := HV.out.symm.trans (GJ (.inr hv2))
  clear hv2
  go_wp2_with (refine wpList_store_row rfl 25 _ _ rfl (w.heap.size + 2) zEn rfl rfl 25 _ HJ2.out.y (aF ⟨#[]⟩ aK aK) rfl (bX ⟨#[]⟩ none 0 0 none 0 0) ?_; generalize hw8 : World.setRow w2 _ _ = w8; have HY8 : Hid (w8.heap[w.heap.size + 2]? = some (.cells zEn 25 (0, 0))) := (by rw [← hw8]; exact setRow_heap _ _ _ _ _ _ HJ2.out.y); have HB8 : Hid (Below w.heap.size w w8) := (by rw [← hw8]; exact below_setRow HJ2.out.b (by omega) _); clear hw8)
  exact bodyPost_ret (aQ (P := Tryz.prog) rfl _ _ (w.heap.size + 2) 25 _ (0, 0) _ rfl HY8.out Tryz.underlying25 rfl (aF _ _ _)) rfl (by rw [HVE.out]; exact JnR.err HB8.out)
 have HV2 := zh hv2
 clear hv2
 have k1 := vS HJ2.out.a; have k2 := vS HJ2.out.c
 by_cases ht : t = t'
 ·subst ht
  have k3 := mH HJ2.out.a; have k4 := mH HJ2.out.c
  have c1 := dI (c2 := cap) (HUP.out w2 HJ2.out.b).1.p
  have c2 := dI (c2 := cap') (HUP.out w2 HJ2.out.b).2.p
  by_cases hbb : b = b'
  ·subst hbb
   go_upto_region 5 with fail
   clear k1 k2 k3 k4 c1 c2
   have HZS := zh (heap_alloc_new w2 (.cells zEn 25))
   go_upto_region 6 with (first
    | (refine wpList_load_row rfl 25 _ rfl w.heap.size rfl 25 _ (0, 0) _ HJ2.out.a Tryz.underlying25 rfl (aF _ _ _) ?_)
    | (refine wpList_store_row rfl 25 _ _ rfl w2.heap.size (enA t (.slice sp n cap) (.slice sq m cq)) rfl rfl 25 _ HZS.out (aF _ _ _) rfl (bX _ _ _ _ _ _ _) ?_; rw [bF]; generalize hw4 : World.alloc w2 _ = w3; have HO3' : Hid (w3.heap[w2.heap.size]? = some (.cells (enA t (.slice sp n cap) (.slice sq m cq)) 25 (0, 0))) := (by rw [← hw4]; exact heap_alloc_new _ _); have NI : Hid (Below w2.heap.size w2 w3) := (by rw [← hw4]; exact aB _ _); have hs3 : w3.heap.size = w2.heap.size + 1 := (by rw [← hw4]; simp); clear hw4 HZS))
   obtain ⟨go, hgo⟩ : ∃ go, go = w2.heap.size := ⟨_, rfl⟩
   obtain ⟨D, hD⟩ : ∃ D, D = go + 1 := ⟨_, rfl⟩
   have HO3 : Hid (w3.heap[go]? = some (.cells (enA t (.slice sp n cap) (.slice sq m cq)) 25 (0, 0))) := by rw [hgo]; exact HO3'.out
   rw [← hgo]
   have HJ3 : Hid (JbX w (enA t (.slice sp n cap) (.slice sq m cq)) (enA t (.slice sp' n' cap') (.slice sq' m' cq')) w3) := HJ2.out.below NI.out
   have HGD : Hid (w.heap.size + 3 ≤ go ∧ go < D ∧ D = w3.heap.size) := ⟨by omega, by omega, by omega⟩
   clear HO3' hgo hD NI hs3 HJ2 hk2 HA HB
   have HRY := zh (fun w : World => (show (Instr.buildSlice 23 0 #[]).run Tryz.prog w = .ok (.slice (some ⟨w.heap.size, 0, none⟩) 0 0) (w.alloc (.cells #[] 62)) by kernel_rfl))
   have hm12 : m ≤ 12 ∧ m' ≤ 12 := ⟨(HUP.out w3 HJ3.out.b).1.hm, (HUP.out w3 HJ3.out.b).2.hm⟩
   have hD3 : D ≤ w3.heap.size := by have := HGD.out.2.2; omega
   go_upto_region 7 with (first
    | (refine dK rfl 23 62 rfl HRY.out ?_; intro v1 w4 hv1 hw1; have hb1 : Below w3.heap.size w3 w4 := (by rw [hw1.out]; exact aB _ _); have HO1 : Hid (OwnG w4 D v1 []) := (by rw [hv1.out, hw1.out]; exact ⟨World.ownsRow_made w3 #[] 0 hD3 (by unfold maxLen; omega) rfl, by simp⟩); have HJ4 := zh (HJ3.out.below hb1); have cS1 := fU HJ4.out.a; have hs01 : D ≤ w4.heap.size := Nat.le_trans hD3 hb1.size; have HSA := zh (HUP.out w4 HJ4.out.b).1)
    | (at_builtin; refine iX rfl (.tmp 35) (.tmp 37) rfl D _ [] 0 rfl rfl HO1.out sq m cq w4.heap.size l rfl HSA.out.s HSA.out.sn (by omega) hs01 ?_; intro sp2 cap2 w5 HO2 HB2 HG2; rw [Nat.zero_add, List.nil_append] at HO2; rw [Nat.zero_add]; have HJ5 := zh (HJ4.out.belowB HB2.out (by have := HGD.out; omega)); have HO5 : Hid (w5.heap[go]? = some (.cells (enA t (.slice sp n cap) (.slice sq m cq)) 25 (0, 0))) := ((HB2.out.block _ HGD.out.2.1).trans ((hb1.block _ (by have := HGD.out; omega)).trans HO3.out)); have cS2 := fU HO5.out; have fS2 := frozen_of_row _ _ 2 _ _ HO5.out))
   have HS6 : Hid (JrS w (enA t (.slice sp n cap) (.slice sq m cq)) (enA t (.slice sp' n' cap') (.slice sq' m' cq')) t (.slice sp n cap) go D (.slice sp2 m cap2) l l l' (w5.setCell ⟨go, 2, none⟩ (.slice sp2 m cap2))) := JrS.of HJ5.out HO5.out (by have := HB2.out.size; omega) HO2.out (fun y hy => .inl hy) HGD.out.1
   clear cS1 cS2 fS2 HJ5 HO5 HO2 HG2 HSA HJ4 HO1 hb1 hv1 hw1 HO3 HJ3 hs01 HB2 HRY hD3
   generalize World.setCell w5 _ _ = w6 at *
   obtain ⟨EB, hEB⟩ : ∃ EB, EB = (enA t (.slice sp' n' cap') (.slice sq' m' cq')) := ⟨_, rfl⟩
   rw [← hEB] at HS6
   have HEB := zh hEB
   clear hEB
   have HD3 : Hid (w.heap.size + 3 ≤ D) := by have := HGD.out; show _ ≤ _; omega
   have HL0 : Hid (l.length = m ∧ nJ (l.map pg)) := ⟨(HUP.out w6 HS6.out.j.b).1.s.len, lS (qW HV1.out)⟩
   have HMD := zh (gG t b)
   obtain ⟨d, hd⟩ : ∃ d, d = eI t b := ⟨_, rfl⟩
   have HDD := zh hd
   have HDO : Hid (D32 d) := by show D32 d; rw [hd]; exact HMD.out
   clear hd HMD
   go_wp2_with fail
   go_loopw [7] (fun i wr => ∃ (k : Nat) (s3 : Option Addr) (mm c3 : Nat) (lL : List Sg), i = .int .i64 k ∧ k ≤ m' ∧ mm ≤ m + k ∧ Hid (lL.length = mm ∧ lL.map pg = jnL d (l.map pg) ((l'.map pg).take k) ∧ nJ (lL.map pg)) ∧ Hid (JrS w (enA t (.slice sp n cap) (.slice sq m cq)) EB t (.slice sp n cap) go D (.slice s3 mm c3) lL l l' wr)) (fun i _ => m' - (intOf i).toNat)
   case atStart => exact ⟨0, sp2, m, cap2, l, rfl, Nat.zero_le _, Nat.le_refl _, ⟨HL0.out.1, rfl, HL0.out.2⟩, HS6.out⟩
   case round =>
    obtain ⟨k, s3, mm, c3, lL, rfl, hk, hmm, HLL, HS⟩ := hrel
    have HUr := zh (HUP.out wr HS.out.j.b)
    have cB : wr.cell? ⟨w.heap.size + 1, 2, none⟩ = some (.slice sq' m' cq') := by have h := HS.out.j.c; rw [HEB.out] at h; exact fU h
    by_cases hlt : k < m'
    ·have hdl : decide ((k : Int) < (m' : Int)) = true := by simp; omega
     have hmmb : mm ≤ 24 := by have := hm12; omega
     obtain ⟨y, bb, off, hy, hok, hsd, esp, hbb, hcp, hry⟩ := pZ HUr.out.2.s hlt
     subst esp
     have HYX := zh hy; have HOK := zh hok; have HSD := zh hsd; have HRY := zh hry; have HBB := zh hbb
     have HYM : Hid (y ∈ l') := List.mem_of_getElem? hy
     have HT : Hid ((l'.map pg).take (k + 1) = (l'.map pg).take k ++ [pg y]) := by show _ = _; rw [List.take_add_one, List.getElem?_map, hy]; rfl
     clear hy hok hsd hry hbb
     have p1 : (0 : Int) ≤ (k : Int) := by omega
     have p2 : (k : Int) < (m' : Int) := by omega
     have HZG := zh (heap_alloc_new wr (.cells zG.toArray 62))
     go_upto_region 11 with (first
      | (refine wpList_load_mid rfl 62 _ rfl bb (off + k * 20) rfl _ _ HRY.out Tryz.underlying62 rfl (eL HOK.out) ?_)
      | (refine wpList_store_row rfl 62 _ _ rfl wr.heap.size (bB y).toArray rfl rfl 62 _ HZG.out (dU HOK.out) (iJ HOK.out) (eF y) ?_; rw [bF]; generalize hw4 : World.alloc wr _ = w4; have NQ : Hid (GB w4 wr.heap.size y) := (by rw [← hw4]; exact GB.new wr y); have HB4 : Hid (Below wr.heap.size wr w4) := (by rw [← hw4]; exact aB _ _); have hs4 : w4.heap.size = wr.heap.size + 1 := (by rw [← hw4]; simp); clear hw4 HZG))
     obtain ⟨gx, hgx⟩ : ∃ gx, gx = wr.heap.size := ⟨_, rfl⟩
     have HG4 : Hid (GB w4 gx y) := by rw [hgx]; exact NQ.out
     rw [← hgx]
     have HS4 : Hid (JrS w (enA t (.slice sp n cap) (.slice sq m cq)) EB t (.slice sp n cap) go D (.slice s3 mm c3) lL l l' w4) := HS.out.below HB4.out HGD.out.2.1
     obtain ⟨BX, hBX⟩ : ∃ BX, BX = w4.heap.size := ⟨_, rfl⟩
     have HBX := zh hBX
     have hkr := HS.out.k
     have HLX : Hid (go < BX ∧ gx < BX) := ⟨by have := HGD.out; omega, by omega⟩
     have HDX : Hid (D ≤ gx ∧ w.heap.size ≤ BX) := ⟨by omega, by have := HGD.out; omega⟩
     have AH : Hid (Blks BX w4 w4 []) := Blks.start (Below.refl _ _) (Nat.le_of_eq hBX)
     have HO4 := zh HS4.out.o
     have HIP := zh (eX HOK.out)
     have HCI : Hid (∀ w', Calls Tryz.prog 30 #[.agg (sgP y).toArray] w' fun e w'' => e = .returned (.agg (dv (idP (pg y)))) ∧ Below w'.heap.size w' w'') := fun w' => jH y.h y.r w' HOK.out
     have HSU : Hid (∀ w', Below BX w4 w' → SgsIn w' w'.heap.size s3 mm c3 lL ∧ SgD w' w'.heap.size y ∧ (s3 = none → c3 = 0)) := fun w' hb => by
      have h1 := HS4.out.below (show Below w4.heap.size w4 w' by rw [← HBX.out]; exact hb) HGD.out.2.1
      have h2 := HUP.out w' h1.j.b
      exact ⟨h1.g.sgs HLL.out.1 (fun z hz => (h1.m z hz).elim (fun h => h2.1.s.dat z h) (fun h => h2.2.s.dat z h)), h2.2.s.dat y HYM.out, h1.g.nilcap⟩
     have HCF : Hid (∀ w', Below BX w4 w' → Calls Tryz.prog 29 #[.slice s3 mm c3, .agg (dv (idP (pg y)))] w' fun e w'' => ∃ i : Int, e = .returned (.int .i64 i) ∧ FndI (lL.map pg) (idP (pg y)) i ∧ Below w'.heap.size w' w'') := fun w' hb => yY s3 mm c3 lL (idP (pg y)) w' (HSU.out w' hb).1 (gH _) (by omega)
     clear NQ hgx hs4 hBX HB4 HS HUr cB HRY HBB hkr
     try simp only [Act.put, zA, zB, zC, zD, zE, zF]
     refine id ?_
     go_cut [9] (fun s9 wx => ∃ i : Int, s9 = .int .i64 i ∧ FndI (lL.map pg) (idP (pg y)) i ∧ Hid (Below BX w4 wx))
     case first =>
      generalize dv (idP (pg y)) = Y at HCI HCF
      as_aux_lemma =>
       refine wp_region_held_drew (S := fun w' => Below BX w4 w') (by kernel_rfl) AH.out.b.drew (fun hHeld => ?_)
       refine zv 0 rfl ?_
       refine zx 1 rfl (v := ?_) ?_ ?_; rotate_left
       ·intro w' hSw; have c2 := fU ((hSw.block _ HLX.out.1).trans HO4.out); go_simp; try with_reducible rfl
       refine zv 2 rfl ?_
       refine' zk 3 rfl (v := _) (yieldsIf_load_mid (by rfl) _ _ rfl _ _ rfl _ _ ?hS3n4 Tryz.underlying56 rfl HIP.out) ?rest3n4
       case hS3n4 =>
        intro w' hSw
        exact (GB.below HG4.out hSw HLX.out.2).p
       try simp only [Act.put, zA, zB, zC, zD, zE, zF]
       refine zr 4 rfl (fun K hK => ?_)
       go_simp
       with_reducible refine (HCI.out _).mono ?_
       rintro e v1 ⟨rfl, hb⟩
       have cV := zh (AH.out.call ((Below.refl _ _).drew.trans hb))
       clear hb
       go_wp2_with fail
       refine hK.out _ _ cV.out.b fun _ => ?_; clear hK K
       refine zr 5 rfl (fun K hK => ?_)
       go_simp
       with_reducible refine (HCF.out _ (cV.out).b).mono ?_
       rintro e v2 ⟨i, rfl, hfi, hb⟩
       have bD := zh (cV.out.call hb)
       have HFI := zh hfi
       clear hfi
       clear hb
       go_wp2_with fail
       refine hK.out _ _ bD.out.b fun _ => ?_; clear hK K
       refine zv 6 rfl ?_
       refine zd ?_ _
       go_wp2_with fail
       go_meet
       exact ⟨i, rfl, HFI.out, bD.out.b⟩
     case rest =>
     obtain ⟨i, rfl, hfi, HB5⟩ := hcut
     obtain ⟨w5, hw5⟩ : ∃ w5, w5 = wc := ⟨_, rfl⟩
     subst hw5
     have HS5 : Hid (JrS w (enA t (.slice sp n cap) (.slice sq m cq)) EB t (.slice sp n cap) go D (.slice s3 mm c3) lL l l' w5) := HS4.out.below (by rw [← HBX.out]; exact HB5.out) HGD.out.2.1
     have HG5 : Hid (GB w5 gx y) := HG4.out.below HB5.out HLX.out.2
     have MX := zh (HSU.out w5 HB5.out)
     have hkx : BX ≤ w5.heap.size := by have := HB5.out.size; have := HBX.out; omega
     clear AH HO4 HCI HCF HSU HB5 HS4 HG4 HIP HBX
     rcases hfi with ⟨kk, rfl, z, hz, hzi⟩ | ⟨rfl, hno⟩
     ·obtain ⟨zz, hzz, rfl⟩ : ∃ zz, lL[kk]? = some zz ∧ pg zz = z := by
       rw [List.getElem?_map] at hz
       obtain ⟨zz, h1, h2⟩ := Option.map_eq_some_iff.1 hz
       exact ⟨zz, h1, h2⟩
      have hkl : kk < mm := by have := (List.getElem?_eq_some_iff.1 hzz).1; have := HLL.out.1; omega
      obtain ⟨gS, hs3⟩ : ∃ gS, s3 = some ⟨gS, 0, none⟩ := by
       obtain ⟨b9, off, e, _⟩ := MX.out.1.cells (by omega)
       obtain ⟨_, ⟨e2, _⟩ | ⟨gg, c9, cur, e2, _⟩⟩ := HS5.out.g.1
       ·rw [e] at e2; cases e2
       ·injection e2 with e2 _ _; exact ⟨gg, e2⟩
      subst hs3
      have HZ := zh hz; have HZI := zh hzi; have HZM : Hid (zz ∈ lL) := List.mem_of_getElem? hzz
      have HOZ : Hid (OkG zz) := HS5.out.g.2 zz HZM.out
      have HRZ : Hid (w5.rangeAt gS (kk * 20) (bB zz)) := by
       obtain ⟨b9, off9, e, _, _, hr⟩ := MX.out.1.cells (by omega)
       injection e with e; injection e with e1 e2; subst e1 e2
       have h := hr kk zz hzz
       rw [Nat.zero_add] at h
       exact h
      have HIZ := zh (eL HOZ.out); have HIX := zh (eL HOK.out)
      obtain ⟨BY, hBY⟩ : ∃ BY, BY = w5.heap.size := ⟨_, rfl⟩
      have HBY := zh hBY
      have hgS : D ≤ gS ∧ gS < w5.heap.size := ⟨bP HS5.out.g.1 gS rfl, (HS5.out.g.1.lt gS rfl).2⟩
      have HLY : Hid (w.heap.size < BY ∧ go < BY ∧ gS < BY ∧ w.heap.size + 1 < BY ∧ gx < BY) := ⟨by have := HGD.out; omega, by have := HGD.out; omega, by omega, by have := HGD.out; omega, by have := HLX.out.2; omega⟩
      have MV : Hid (Blks BY w5 w5 []) := Blks.start (Below.refl _ _) (Nat.le_of_eq hBY)
      have HA5 := zh HS5.out.j.a
      have HB5 : Hid (w5.heap[w.heap.size + 1]? = some (.cells (enA t (.slice sp' n' cap') (.slice (some ⟨bb, off, none⟩) m' cq')) 25 (0, 0))) := by have h := HS5.out.j.c; rw [HEB.out] at h; exact h
      have HO5 := zh HS5.out.o
      have HUY : Hid (∀ w', Below BY w5 w' → BSrc w' w'.heap.size sp n cap b ∧ BSrc w' w'.heap.size sp' n' cap' b ∧ SgD w' w'.heap.size zz ∧ SgD w' w'.heap.size y) := fun w' hb => by
       have h1 := HS5.out.below (show Below w5.heap.size w5 w' by rw [← HBY.out]; exact hb) HGD.out.2.1
       have h2 := HUP.out w' h1.j.b
       exact ⟨h2.1.p, h2.2.p, (h1.m zz HZM.out).elim (fun h => h2.1.s.dat zz h) (fun h => h2.2.s.dat zz h), h2.2.s.dat y HYM.out⟩
      obtain ⟨v1, hv1⟩ : ∃ v1, v1 = nI d (pg zz) := ⟨_, rfl⟩
      obtain ⟨v2, hv2⟩ : ∃ v2, v2 = nI d (pg y) := ⟨_, rfl⟩
      have HW1 := zh hv1; have HW2 := zh hv2
      have HV1 : Hid (∀ w', Below BY w5 w' → Calls Tryz.prog 32 #[.agg (enL t (.slice sp n cap) (.slice sq m cq)).toArray, .agg (bB zz).toArray] w' fun e w'' => e = .returned (.bool v1) ∧ Below w'.heap.size w' w'') := fun w' hb => by
       obtain ⟨h1, _, h3, _⟩ := HUY.out w' hb
       rw [HW1.out, HDD.out]; exact kU t sp n cap b _ zz w' h1 HOZ.out h3
      have HV2 : Hid (∀ w', Below BY w5 w' → Calls Tryz.prog 32 #[.agg (enL t (.slice sp' n' cap') (.slice (some ⟨bb, off, none⟩) m' cq')).toArray, .agg (bB y).toArray] w' fun e w'' => e = .returned (.bool v2) ∧ Below w'.heap.size w' w'') := fun w' hb => by
       obtain ⟨_, h2, _, h4⟩ := HUY.out w' hb
       rw [HW2.out, HDD.out]; exact kU t sp' n' cap' b _ y w' h2 HOK.out h4
      have p3 : (0 : Int) ≤ (kk : Int) := by omega
      have p4 : (kk : Int) < (mm : Int) := by omega
      have hq0 : decide ((kk : Int) < 0) = false := by simp
      clear hz hzi hzz hBY hv1 hv2 MX HUY
      go_upto_region 14 with fail
      go_cut [77] (fun s77 wx => s77 = .bool (!v1 && v2) ∧ Hid (Below BY w5 wx))
      case first =>
       cases v1
       ·as_aux_lemma =>
         refine wp_region_held_drew (S := fun w' => Below BY w5 w') (by kernel_rfl) MV.out.b.drew (fun hHeld => ?_)
         refine' zk 0 rfl (v := _) (yieldsIf_load_mid (by rfl) _ _ rfl _ _ rfl _ _ ?hS0n6 Tryz.underlying25 rfl (fR _ _ _)) ?rest0n6
         case hS0n6 =>
          intro w' hSw
          exact aO (L := (enL t (.slice sp n cap) (.slice sq m cq))) ((hSw.block _ HLY.out.1).trans HA5.out)
         try simp only [Act.put, zA, zB, zC, zD, zE, zF]
         refine zv 1 rfl ?_
         refine zx 2 rfl (v := ?_) ?_ ?_; rotate_left
         ·intro w' hSw; have c2 := fU ((hSw.block _ HLY.out.2.1).trans HO5.out); go_simp; try with_reducible rfl
         refine zv 3 rfl ?_
         refine zv 4 rfl ?_
         refine' zk 5 rfl (v := _) (yieldsIf_load_mid (by rfl) _ _ rfl _ _ rfl _ _ ?hS5n11 Tryz.underlying62 rfl HIZ.out) ?rest5n11
         case hS5n11 =>
          intro w' hSw
          exact aA HRZ.out hSw HLY.out.2.2.1
         try simp only [Act.put, zA, zB, zC, zD, zE, zF]
         refine zr 6 rfl (fun K hK => ?_)
         go_simp
         with_reducible refine (HV1.out _ (MV.out.drew).b).mono ?_
         rintro e v1 ⟨rfl, hb⟩
         have cV := zh (MV.out.call ((Below.refl _ _).drew.trans hb))
         clear hb
         go_wp2_with fail
         refine hK.out _ _ cV.out.b fun _ => ?_; clear hK K
         refine zv 7 rfl ?_
         refine zv 8 rfl ?_
         refine' zk 9 rfl (v := _) (yieldsIf_load_mid (by rfl) _ _ rfl _ _ rfl _ _ ?hS9n14 Tryz.underlying25 rfl (fR _ _ _)) ?rest9n14
         case hS9n14 =>
          intro w' hSw
          exact aO (L := (enL t (.slice sp' n' cap') (.slice (some ⟨bb, off, none⟩) m' cq'))) ((hSw.block _ HLY.out.2.2.2.1).trans HB5.out)
         try simp only [Act.put, zA, zB, zC, zD, zE, zF]
         refine' zk 10 rfl (v := _) (yieldsIf_load_mid (by rfl) _ _ rfl _ _ rfl _ _ ?hS10n15 Tryz.underlying62 rfl HIX.out) ?rest10n15
         case hS10n15 =>
          intro w' hSw
          exact (GB.below HG5.out hSw HLY.out.2.2.2.2).all
         try simp only [Act.put, zA, zB, zC, zD, zE, zF]
         refine zr 11 rfl (fun K hK => ?_)
         go_simp
         with_reducible refine (HV2.out _ (cV.out).b).mono ?_
         rintro e v2 ⟨rfl, hb⟩
         have bD := zh (cV.out.call hb)
         clear hb
         go_wp2_with fail
         refine hK.out _ _ bD.out.b fun _ => ?_; clear hK K
         refine zv 12 rfl ?_
         refine zd ?_ _
         go_wp2_with fail
         go_meet
         exact ⟨rfl, bD.out.b⟩
       ·as_aux_lemma =>
         refine wp_region_held_drew (S := fun w' => Below BY w5 w') (by kernel_rfl) MV.out.b.drew (fun hHeld => ?_)
         refine' zk 0 rfl (v := _) (yieldsIf_load_mid (by rfl) _ _ rfl _ _ rfl _ _ ?hS0n17 Tryz.underlying25 rfl (fR _ _ _)) ?rest0n17
         case hS0n17 =>
          intro w' hSw
          exact aO (L := (enL t (.slice sp n cap) (.slice sq m cq))) ((hSw.block _ HLY.out.1).trans HA5.out)
         try simp only [Act.put, zA, zB, zC, zD, zE, zF]
         refine zv 1 rfl ?_
         refine zx 2 rfl (v := ?_) ?_ ?_; rotate_left
         ·intro w' hSw; have c2 := fU ((hSw.block _ HLY.out.2.1).trans HO5.out); go_simp; try with_reducible rfl
         refine zv 3 rfl ?_
         refine zv 4 rfl ?_
         refine' zk 5 rfl (v := _) (yieldsIf_load_mid (by rfl) _ _ rfl _ _ rfl _ _ ?hS5n22 Tryz.underlying62 rfl HIZ.out) ?rest5n22
         case hS5n22 =>
          intro w' hSw
          exact aA HRZ.out hSw HLY.out.2.2.1
         try simp only [Act.put, zA, zB, zC, zD, zE, zF]
         refine zr 6 rfl (fun K hK => ?_)
         go_simp
         with_reducible refine (HV1.out _ (MV.out.drew).b).mono ?_
         rintro e v1 ⟨rfl, hb⟩
         have cV := zh (MV.out.call ((Below.refl _ _).drew.trans hb))
         clear hb
         go_wp2_with fail
         refine hK.out _ _ cV.out.b fun _ => ?_; clear hK K
         refine zv 7 rfl ?_
         refine zv 8 rfl ?_
         refine zk 9 rfl (v := undef) (.inr ⟨by rfl, rfl⟩) ?_; try simp only [Act.put, zA, zB, zC, zD, zE, zF]
         refine zk 10 rfl (v := undef) (.inr ⟨by rfl, rfl⟩) ?_; try simp only [Act.put, zA, zB, zC, zD, zE, zF]
         refine zk 11 rfl (v := undef) (.inr ⟨by rfl, rfl⟩) ?_; try simp only [Act.put, zA, zB, zC, zD, zE, zF]
         refine zv 12 rfl ?_
         refine zd ?_ _
         go_wp2_with fail
         go_meet
         exact ⟨rfl, cV.out.b⟩
      case rest =>
      obtain ⟨rfl, HB6⟩ := hcut
      obtain ⟨w6, hw6⟩ : ∃ w6, w6 = wc := ⟨_, rfl⟩
      subst hw6
      have vZ : Hid (JrS w (enA t (.slice sp n cap) (.slice sq m cq)) EB t (.slice sp n cap) go D (.slice (some ⟨gS, 0, none⟩) mm c3) lL l l' w6) := HS5.out.below (by rw [← HBY.out]; exact HB6.out) HGD.out.2.1
      have HG6 : Hid (GB w6 gx y) := HG5.out.below HB6.out HLY.out.2.2.2.2
      have HRZ6 : Hid (w6.rangeAt gS (kk * 20) (bB zz)) := aA HRZ.out HB6.out HLY.out.2.2.1
      clear MV HA5 HB5 HO5 HV1 HV2 HS5 HG5 HRZ
      cases hvv : (!v1 && v2)
      ·have HKP : Hid (jnS d (lL.map pg) (pg y) = lL.map pg) := rE HLL.out.2.2 HZ.out HZI.out (by
        rw [← HW1.out, ← HW2.out]
        cases v1 <;> cases v2 <;> simp at hvv ⊢)
       go_wp2_with fail
       go_roundw
       case rel => exact ⟨k + 1, some ⟨gS, 0, none⟩, mm, c3, lL, by go_num, by omega, by omega, ⟨HLL.out.1, by rw [HT.out, iP, ← HLL.out.2.1, HKP.out], HLL.out.2.2⟩, vZ.out⟩
       case measure => simp [intOf]; omega
      ·have HVV : Hid (v1 = false ∧ v2 = true) := by show _ ∧ _; revert hvv; clear HW1 HW2; cases v1 <;> cases v2 <;> simp
       have HST : Hid ((lL.set kk y).map pg = jnS d (lL.map pg) (pg y)) := by show _ = _; rw [CQ HLL.out.2.2 HZ.out HZI.out (HW1.out.symm.trans HVV.out.1) (HW2.out.symm.trans HVV.out.2), List.map_set]
       have HS7 : Hid (JrS w (enA t (.slice sp n cap) (.slice sq m cq)) EB t (.slice sp n cap) go D (.slice (some ⟨gS, 0, none⟩) mm c3) (lL.set kk y) l l' (w6.setCells gS (kk * 20) (bB y))) := JrS.setL vZ.out _ _ (vZ.out.g.setW HLL.out.1 hkl HOK.out) (fun q hq => by
        rcases List.mem_or_eq_of_mem_set hq with h | rfl
        ·exact vZ.out.m q h
        ·exact .inr HYM.out) HGD.out.1 HGD.out.2.1
       have HTH : Hid (w6.there gS (kk * 20) 20) := fun j hj => by
        have h20 := aE HOZ.out
        have h1 := HRZ6.out j (bB zz)[j] (List.getElem?_eq_getElem (by omega))
        obtain ⟨cur, hg⟩ := oR vZ.out.g
        exact ⟨by rw [h1]; rfl, frozen_of_row _ _ _ _ _ hg⟩
       have HSZ : Hid ((bB y).toArray.size = 20) := aE HOK.out
       have cO := fU vZ.out.o
       have HLS : Hid ((lL.set kk y).length = mm) := by show _ = _; rw [List.length_set]; exact HLL.out.1
       generalize lL.set kk y = l7 at *
       go_wp2_with (first
        | (refine wpList_load_row rfl 62 _ rfl gx rfl 62 _ (0, 0) _ HG6.out Tryz.underlying62 rfl (dU HOK.out) ?_)
        | (refine wpList_store_mid rfl 62 _ _ rfl gS (kk * 20) (bB y).toArray rfl rfl (by rw [HSZ.out]; exact HTH.out) (eL HOK.out) (eF y) ?_; generalize hw8 : World.setCells w6 _ _ _ = w8; have HS8 : Hid (JrS w (enA t (.slice sp n cap) (.slice sq m cq)) EB t (.slice sp n cap) go D (.slice (some ⟨gS, 0, none⟩) mm c3) l7 l l' w8) := (by rw [← hw8]; exact HS7.out); clear hw8 HS7))
       go_roundw
       case rel => exact ⟨k + 1, some ⟨gS, 0, none⟩, mm, c3, l7, by go_num, by omega, by omega, ⟨HLS.out, by rw [HT.out, iP, ← HLL.out.2.1]; exact HST.out, by rw [HST.out]; exact CP HLL.out.2.2⟩, HS8.out⟩
       case measure => simp [intOf]; omega
     ·have HNO : Hid (pI (lL.map pg) (pg y) = false) := LS hno
      clear hno
      have cO := fU HS5.out.o
      have HCN := zh (mR s3 mm c3 lL y w5 MX.out.1 MX.out.2.2 HOK.out MX.out.2.1 (by omega))
      go_wp2_with (refine wpList_load_row rfl 62 _ rfl gx rfl 62 _ (0, 0) _ HG5.out Tryz.underlying62 rfl (dU HOK.out) ?_)
      refine HCN.out.mono ?_
      rintro e w6' ⟨s6, c6, kk, hkk, rfl, ho6, hlo, hhi, hb6⟩
      have vZ : Hid (JrS w (enA t (.slice sp n cap) (.slice sq m cq)) EB t (.slice sp n cap) go D (.slice s3 mm c3) lL l l' w6') := HS5.out.below hb6 HGD.out.2.1
      have HO6 : Hid (OwnG w6' D (.slice s6 (mm + 1) c6) (lL.take kk ++ y :: lL.drop kk)) := ho6.base (by have := HS5.out.k; omega)
      have HMP : Hid ((lL.take kk ++ y :: lL.drop kk).map pg = nL (lL.map pg) (pg y)) := by
       show _ = _
       rw [rG (k := kk) (by rw [List.length_map, HLL.out.1]; exact hkk) hlo (HiP.of HLL.out.2.2 hhi), List.map_append, List.map_cons, List.map_take, List.map_drop]
      have HLN6 : Hid ((lL.take kk ++ y :: lL.drop kk).length = mm + 1) := by show _ = _; have h := congrArg List.length HMP.out; rw [List.length_map, lD, List.length_map, HLL.out.1] at h; exact h
      have HME : Hid (∀ q ∈ lL.take kk ++ y :: lL.drop kk, q ∈ l ∨ q ∈ l') := fun q hq => by
       rcases List.mem_append.1 hq with h | h
       ·exact vZ.out.m q (List.mem_of_mem_take h)
       ·rcases List.mem_cons.1 h with rfl | h
        ·exact .inr HYM.out
        ·exact vZ.out.m q (List.mem_of_mem_drop h)
      clear ho6 hlo hhi hb6 HCN cO HS5 HG5 MX hkx
      have cO6 := fU vZ.out.o
      have fO6 := frozen_of_row _ _ 2 _ _ vZ.out.o
      have HS7 : Hid (JrS w (enA t (.slice sp n cap) (.slice sq m cq)) EB t (.slice sp n cap) go D (.slice s6 (mm + 1) c6) (lL.take kk ++ y :: lL.drop kk) l l' (w6'.setCell ⟨go, 2, none⟩ (.slice s6 (mm + 1) c6))) := JrS.setS vZ.out HO6.out HME.out HGD.out.1
      have q1 : IntKind.i64.wrap ((mm : Int) + 1) = (mm : Int) + 1 := IntWalk.i64_in _ (by omega)
      go_upto_region 9 with fail
      clear cO6 fO6
      generalize World.setCell w6' _ _ = w7 at *
      generalize lL.take kk ++ y :: lL.drop kk = l7 at *
      go_wp2_with fail
      go_roundw
      case rel => exact ⟨k + 1, s6, mm + 1, c6, l7, by go_num, by omega, by omega, ⟨HLN6.out, by rw [HMP.out, HT.out, iP, ← HLL.out.2.1, CR HNO.out], by rw [HMP.out]; exact lA HLL.out.2.2 HNO.out⟩, HS7.out⟩
      case measure => simp [intOf]; omega
    ·have hdl : decide ((k : Int) < (m' : Int)) = false := by simp; omega
     obtain rfl : k = m' := by omega
     have HLF : Hid (lL.map pg = jnL d (l.map pg) (l'.map pg)) := by have h := HLL.out.2.1; rwa [List.take_of_length_le (by rw [List.length_map, HUr.out.2.s.len]; exact Nat.le_refl _)] at h
     have HLN : Hid ((jnL (eI t b) (l.map pg) (l'.map pg)).length = mm) := by show _ = _; rw [← HDD.out, ← HLF.out, List.length_map]; exact HLL.out.1
     have cO := fU HS.out.o
     by_cases h8 : 8 < mm
     ·have hq : decide ((mm : Int) > 8) = true := by simp; omega
      have HVE : Hid (V = vQ 3) := HV.out.symm.trans (OQ HV1.out HV2.out (by rw [HLN.out]; exact h8))
      have HJR := zh HS.out.j
      go_upto_region 17 with fail
      go_wp2_with (refine wpList_store_row rfl 25 _ _ rfl (w.heap.size + 2) zEn rfl rfl 25 _ HJR.out.y (aF ⟨#[]⟩ aK aK) rfl (bX ⟨#[]⟩ none 0 0 none 0 0) ?_; generalize hw8 : World.setRow wr _ _ = w8; have HY8 : Hid (w8.heap[w.heap.size + 2]? = some (.cells zEn 25 (0, 0))) := (by rw [← hw8]; exact setRow_heap _ _ _ _ _ _ HJR.out.y); have HB8 : Hid (Below w.heap.size w w8) := (by rw [← hw8]; exact below_setRow HJR.out.b (by omega) _); clear hw8)
      exact bodyPost_ret (aQ (P := Tryz.prog) rfl _ _ (w.heap.size + 2) 25 _ (0, 0) _ rfl HY8.out Tryz.underlying25 rfl (aF _ _ _)) rfl (by rw [HVE.out]; exact JnR.err HB8.out)
     ·have hq : decide ((mm : Int) > 8) = false := by simp; omega
      have HVE : Hid (V = ⟨0, t, b, jnL (eI t b) (l.map pg) (l'.map pg)⟩) := HV.out.symm.trans (OR HV1.out HV2.out (by rw [HLN.out]; exact h8))
      go_upto_region 18 with fail
      go_wp2_with (first
       | (refine wpList_load_row rfl 25 _ rfl go rfl 25 _ (0, 0) _ HS.out.o Tryz.underlying25 rfl (aF _ _ _) ?_)
       | (refine wpList_store_row rfl 25 _ _ rfl (w.heap.size + 2) (enA t (.slice sp n cap) (.slice s3 mm c3)) rfl rfl 25 _ HS.out.j.y (aF _ _ _) rfl (bX _ _ _ _ _ _ _) ?_; generalize hw8 : World.setRow wr _ _ = w8; have HY8 : Hid (w8.heap[w.heap.size + 2]? = some (.cells (enA t (.slice sp n cap) (.slice s3 mm c3)) 25 (0, 0))) := (by rw [← hw8]; exact setRow_heap _ _ _ _ _ _ HS.out.j.y); have HB8 : Hid (Below w.heap.size w w8) := (by rw [← hw8]; exact below_setRow HS.out.j.b (by omega) _); have HG8 : Hid (OwnG w8 D (.slice s3 mm c3) lL) := (by rw [← hw8]; exact ⟨World.ownsRow.kept HS.out.g.1 (cJ _ _ _) (cF HS.out.g.1 HS.out.j.y (by decide)), HS.out.g.2⟩); clear hw8))
      exact bodyPost_ret (aQ (P := Tryz.prog) rfl _ _ (w.heap.size + 2) 25 _ (0, 0) _ rfl HY8.out Tryz.underlying25 rfl (aF _ _ _)) rfl (by rw [HVE.out]; exact ⟨sp, n, cap, s3, mm, c3, lL, rfl, (HUP.out w8 HB8.out).1.p, HG8.out.sgs HLL.out.1 (fun y hy => (HS.out.m y hy).elim (fun h => (HUP.out w8 HB8.out).1.s.dat y h) (fun h => (HUP.out w8 HB8.out).2.s.dat y h)), by rw [← HDD.out]; exact HLF.out, HB8.out⟩)
  ·have hl0 : ¬ (⟨b.toArray⟩ : ByteArray).toList = (⟨b'.toArray⟩ : ByteArray).toList := fun e => hbb (by rw [Lib.toList_data, Lib.toList_data] at e; exact e)
   have hq : decide (b = b') = false := decide_eq_false hbb
   have hq2 : (b == b') = false := by simpa using hbb
   have HVE : Hid (V = vQ 9) := HV.out.symm.trans (GI HV1.out HV2.out (.inr hbb))
   go_upto_region 4 with fail
   go_wp2_with (refine wpList_store_row rfl 25 _ _ rfl (w.heap.size + 2) zEn rfl rfl 25 _ HJ2.out.y (aF ⟨#[]⟩ aK aK) rfl (bX ⟨#[]⟩ none 0 0 none 0 0) ?_; generalize hw8 : World.setRow w2 _ _ = w8; have HY8 : Hid (w8.heap[w.heap.size + 2]? = some (.cells zEn 25 (0, 0))) := (by rw [← hw8]; exact setRow_heap _ _ _ _ _ _ HJ2.out.y); have HB8 : Hid (Below w.heap.size w w8) := (by rw [← hw8]; exact below_setRow HJ2.out.b (by omega) _); clear hw8)
   exact bodyPost_ret (aQ (P := Tryz.prog) rfl _ _ (w.heap.size + 2) 25 _ (0, 0) _ rfl HY8.out Tryz.underlying25 rfl (aF _ _ _)) rfl (by rw [HVE.out]; exact JnR.err HB8.out)
 ·have hl0 : ¬ t.toList = t'.toList := fun e => ht (JN e)
  have hq : (t.toList == t'.toList) = false := by simpa using hl0
  have hq3 : decide (t.toList = t'.toList) = false := decide_eq_false hl0
  have HVE : Hid (V = vQ 9) := HV.out.symm.trans (GI HV1.out HV2.out (.inl ht))
  go_upto_region 4 with fail
  go_wp2_with (refine wpList_store_row rfl 25 _ _ rfl (w.heap.size + 2) zEn rfl rfl 25 _ HJ2.out.y (aF ⟨#[]⟩ aK aK) rfl (bX ⟨#[]⟩ none 0 0 none 0 0) ?_; generalize hw8 : World.setRow w2 _ _ = w8; have HY8 : Hid (w8.heap[w.heap.size + 2]? = some (.cells zEn 25 (0, 0))) := (by rw [← hw8]; exact setRow_heap _ _ _ _ _ _ HJ2.out.y); have HB8 : Hid (Below w.heap.size w w8) := (by rw [← hw8]; exact below_setRow HJ2.out.b (by omega) _); clear hw8)
  exact bodyPost_ret (aQ (P := Tryz.prog) rfl _ _ (w.heap.size + 2) 25 _ (0, 0) _ rfl HY8.out Tryz.underlying25 rfl (aF _ _ _)) rfl (by rw [HVE.out]; exact JnR.err HB8.out)
end Go.Proofs.YtcligodahogpkaaGreatDoor
