/-
  Envelopes: the walk of the program's Join (conditions: the arguments read as envelopes within the statements' bounds; the table of constants reads as it is laid).
-/
import Derived.Test.YtcligodahogpkaaGreatDoorZip
import Derived.Test.YtcligodahogpkaaGreatDoorEnvY
import Derived.Test.YtcligodahogpkaaGreatDoorEnvI2
set_option maxRecDepth 100000
set_option maxHeartbeats 8000000
namespace Go.Proofs.YtcligodahogpkaaGreatDoor
open Go.RowKit Go.Proofs.YtcligodahogpkaaGreatDoor.One
theorem GH (t : ByteArray) (s1 : Option Addr) (n1 c1 : Nat) (s2 : Option Addr) (n2 c2 : Nat) (w : World) : (Instr.field 25 (.agg (enA t (.slice s1 n1 c1) (.slice s2 n2 c2))) 2).run Tryz.prog w = .ok (.slice s2 n2 c2) w := by kernel_rfl
theorem wT (sp : Option Addr) (n cap : Nat) (b : List UInt8) (sp' : Option Addr) (n' cap' : Nat) (b' : List UInt8) (w : World) (hp : BSrc w w.heap.size sp n cap b) (hp' : BSrc w w.heap.size sp' n' cap' b') :
 Calls Tryz.prog 23 #[.slice sp n cap, .slice sp' n' cap'] w fun e w' => e = .returned (.bool (decide (b = b'))) ∧ w = w' := by
 have c1 := hZ (c2 := cap) hp
 have c2 := hZ (c2 := cap') hp'
 by_cases hbb : b = b'
 ·subst hbb
  go_enter Tryz.func23, Tryz.ntmps23
  go_wp2_with fail
  go_ret
  exact ⟨by simp, rfl⟩
 ·have hq : decide (b = b') = false := decide_eq_false hbb
  go_enter Tryz.func23, Tryz.ntmps23
  go_wp2_with fail
  go_ret
  exact ⟨by simp [hbb], rfl⟩
theorem jQ (g : Nat) : ∀ (cs : List Value) (o : Nat) (w : World), w.grownBy (w.setCells g o cs) (some g)
 | [], _, w => World.grownBy.refl _ _
 | c :: r, o, w => by
   have h1 := aQ w g o c
   have h2 := jQ g r (o + 1) (w.setCell ⟨g, o, none⟩ c)
   exact ⟨h2.os.trans h1.os, h2.tape.trans h1.tape, h2.output.trans h1.output, Nat.le_trans h1.size h2.size, fun k hk hne => (h2.block k (Nat.lt_of_lt_of_le hk h1.size) hne).trans (h1.block k hk hne)⟩
structure JpS (w : World) (EA EB : Array Value) (t : ByteArray) (d : List Int) (b : List UInt8) (P : Value) (go p D : Nat) (s0 s sB : Value) (l lB : List Sg) (wr : World) : Prop where
 j : JbX w EA EB wr
 o : wr.heap[go]? = some (.cells (enA t P s0) 25 (0, 0))
 v : wr.heap[p]? = some (.cells (dgA d) 43 (0, 0))
 ob : OwnBy wr D P b
 g : OwnG wr D s l
 gd : ∀ y ∈ l, SgT wr D y
 h : OwnG wr D sB lB
 hd : ∀ y ∈ lB, SgT wr D y
 ap : ∀ k, s.ownBlock = some k → sB.ownBlock = some k → False
 gp : D ≤ go ∧ w.heap.size + 3 ≤ D
 k : D ≤ wr.heap.size
section
variable {w : World} {EA EB : Array Value} {t : ByteArray} {d : List Int} {b : List UInt8} {P : Value} {go p D : Nat} {s0 s s' sB : Value} {l l' lB : List Sg} {wr w' : World}
theorem JpS.below (h : JpS w EA EB t d b P go p D s0 s sB l lB wr) (hb : Below wr.heap.size wr w') : JpS w EA EB t d b P go p D s0 s sB l lB w' :=
 ⟨h.j.below hb, (hb.block _ (Array.getElem?_eq_some_iff.1 h.o).1).trans h.o, (hb.block _ (Array.getElem?_eq_some_iff.1 h.v).1).trans h.v, h.ob.below hb, h.g.below hb, fun y hy => (h.gd y hy).below hb, h.h.below hb, fun y hy => (h.hd y hy).below hb, h.ap, h.gp, Nat.le_trans h.k hb.size⟩
theorem CE {v : Value} {g : Nat} (h : v.ownBlock = none ∨ v.ownBlock ≠ some g) : some g ≠ v.ownBlock := fun e => by
 rcases h with h | h
 ·rw [h] at e; cases e
 ·exact h e.symm
theorem JpS.upd (h : JpS w EA EB t d b P go p D s0 s sB l lB wr) (hg : wr.grownBy w' s.ownBlock) (hb : Below D wr w') (ho : OwnG w' D s' l') (hl : ∀ y ∈ l', y ∈ l ∨ y ∈ lB) (hat : AtW wr s s') : JpS w EA EB t d b P go p D s0 s' sB l' lB w' := by
 have hap : sB.ownBlock = none ∨ sB.ownBlock ≠ s.ownBlock := by
  cases hs : sB.ownBlock with
  | none => exact .inl rfl
  | some k => exact .inr fun e => h.ap k e.symm hs
 refine ⟨h.j.belowB hb h.gp.2, (hg.block _ (Array.getElem?_eq_some_iff.1 h.o).1 (CE (cF h.g.1 h.o (by decide)))).trans h.o, (hg.block _ (Array.getElem?_eq_some_iff.1 h.v).1 (CE (cF h.g.1 h.v (by decide)))).trans h.v, World.ownsRow.kept h.ob hg (rM h.ob h.g.1 (by decide)), ho, fun y hy => ?_, ⟨World.ownsRow.kept h.h.1 hg hap, h.h.2⟩, fun y hy => (h.hd y hy).grown h.g hg, fun k h1 h2 => ?_, h.gp, Nat.le_trans h.k hb.size⟩
 ·rcases hl y hy with h1 | h1
  ·exact (h.gd y h1).grown h.g hg
  ·exact (h.hd y h1).grown h.g hg
 ·rcases hat with e | e
  ·exact h.ap k (e.symm.trans h1) h2
  ·have h3 := (h.h.1.lt k h2).2
   rw [e] at h1; injection h1 with h1; omega
theorem JpS.setS (h : JpS w EA EB t d b P go p D s0 s sB l lB wr) : JpS w EA EB t d b P go p D s s sB l lB (wr.setCell ⟨go, 2, none⟩ s) := by
 have h2 := heap_setCell_same wr go 2 _ _ s h.o
 rw [qU] at h2
 have hgp := h.gp
 have hne : p ≠ go := fun e => by have h3 := h.v; rw [e, h.o] at h3; injection h3 with h3; injection h3 with _ h4 _; exact absurd h4 (by decide)
 exact ⟨⟨(heap_setCell_other wr ⟨go, 2, none⟩ _ _ (by show w.heap.size ≠ go; omega)).trans h.j.a, (heap_setCell_other wr ⟨go, 2, none⟩ _ _ (by show w.heap.size + 1 ≠ go; omega)).trans h.j.c, (heap_setCell_other wr ⟨go, 2, none⟩ _ _ (by show w.heap.size + 2 ≠ go; omega)).trans h.j.y, h.j.b.setCell (p := ⟨go, 2, none⟩) (by show w.heap.size ≤ go; omega) _, Nat.le_trans h.j.k (eF _ _ _)⟩, h2, (heap_setCell_other wr ⟨go, 2, none⟩ _ _ hne).trans h.v, World.ownsRow.kept h.ob (aQ _ _ _ _) (cF h.ob h.o (by decide)), ⟨World.ownsRow.kept h.g.1 (aQ _ _ _ _) (cF h.g.1 h.o (by decide)), h.g.2⟩, fun y hy => (h.gd y hy).setCell h.o rO _ _, ⟨World.ownsRow.kept h.h.1 (aQ _ _ _ _) (cF h.h.1 h.o (by decide)), h.h.2⟩, fun y hy => (h.hd y hy).setCell h.o rO _ _, h.ap, h.gp, Nat.le_trans h.k (eF _ _ _)⟩
end
theorem uA (t : ByteArray) (sp : Option Addr) (n cap : Nat) (b : List UInt8) (sq : Option Addr) (m cq : Nat) (l : List Sg) (t' : ByteArray) (sp' : Option Addr) (n' cap' : Nat) (b' : List UInt8) (sq' : Option Addr) (m' cq' : Nat) (l' : List Sg) (w : World) (ha : EvX w t sp n cap b sq m cq l) (hb : EvX w t' sp' n' cap' b' sq' m' cq' l') (hk : KayIn w) (hk0 : 1 < w.heap.size) :
 Calls Tryz.prog 9 #[.agg (enA t (.slice sp n cap) (.slice sq m cq)), .agg (enA t' (.slice sp' n' cap') (.slice sq' m' cq'))] w (JnR (jnV t t' b b' (l.map pg) (l'.map pg)) w) := by
 have HA := zh ha; have HB := zh hb; have HK := zh hk
 clear ha hb hk
 have HJ := zh (JbX.new w (enA t (.slice sp n cap) (.slice sq m cq)) (enA t' (.slice sp' n' cap') (.slice sq' m' cq')))
 obtain ⟨V, hV⟩ : ∃ V, jnV t t' b b' (l.map pg) (l'.map pg) = V := ⟨_, rfl⟩
 rw [hV]
 have HV := zh hV
 clear hV
 go_enter Tryz.func9, Tryz.ntmps9
 go_upto_region 1 with fail
 generalize hw0 : World.alloc (World.alloc (World.alloc w _) _) _ = w0
 have HJ0 : Hid (JbX w (enA t (.slice sp n cap) (.slice sq m cq)) (enA t' (.slice sp' n' cap') (.slice sq' m' cq')) w0) := by rw [← hw0]; exact HJ.out
 clear hw0 HJ
 have hkk0 := HJ0.out.k
 have HUP : Hid (∀ w', Below w.heap.size w w' → (EvX w' t sp n cap b sq m cq l ∧ EvX w' t' sp' n' cap' b' sq' m' cq' l') ∧ KayIn w' ∧ 1 < w'.heap.size) := fun w' hb => ⟨⟨HA.out.below hb, HB.out.below hb⟩, HK.out.below hb hk0, Nat.lt_of_lt_of_le hk0 hb.size⟩
 have HU0 := zh (HUP.out w0 HJ0.out.b)
 have HC1 := zh (fN t sp n cap b sq m cq l w0 HU0.out.1.1.tl HU0.out.1.1.p HU0.out.1.1.s HU0.out.2.1 HU0.out.2.2)
 go_wp2_with (refine wpList_load_row rfl 25 _ rfl w.heap.size rfl 25 _ (0, 0) _ HJ0.out.a Tryz.underlying25 rfl (aL _ _ _) ?_)
 refine HC1.out.mono ?_
 rintro e w1 ⟨rfl, hb1⟩
 have HJ1 : Hid (JbX w (enA t (.slice sp n cap) (.slice sq m cq)) (enA t' (.slice sp' n' cap') (.slice sq' m' cq')) w1) := HJ0.out.below hb1
 clear hb1 HC1 HJ0 hkk0 HU0
 have hkk1 := HJ1.out.k
 cases hv1 : eY t b (l.map pg)
 ·have HVE : Hid (V = EP 1) := HV.out.symm.trans (OE (.inl hv1))
  clear hv1
  go_upto_region 3 with fail
  go_wp2_with (refine wpList_store_row rfl 25 _ _ rfl (w.heap.size + 2) zEn rfl rfl 25 _ HJ1.out.y (aL ⟨#[]⟩ aM aM) rfl (cJ ⟨#[]⟩ none 0 0 none 0 0) ?_; generalize hw8 : World.setRow w1 _ _ = w8; have HY8 : Hid (w8.heap[w.heap.size + 2]? = some (.cells zEn 25 (0, 0))) := (by rw [← hw8]; exact setRow_heap _ _ _ _ _ _ HJ1.out.y); have HB8 : Hid (Below w.heap.size w w8) := (by rw [← hw8]; exact below_setRow HJ1.out.b (by omega) _); clear hw8)
  exact bodyPost_ret (bT (P := Tryz.prog) rfl _ _ (w.heap.size + 2) 25 _ (0, 0) _ rfl HY8.out Tryz.underlying25 rfl (aL _ _ _)) rfl (by rw [HVE.out]; exact JnR.err HB8.out)
 have HV1 := zh hv1
 clear hv1
 have HU1 := zh (HUP.out w1 HJ1.out.b)
 have HC2 := zh (fN t' sp' n' cap' b' sq' m' cq' l' w1 HU1.out.1.2.tl HU1.out.1.2.p HU1.out.1.2.s HU1.out.2.1 HU1.out.2.2)
 go_wp2_with (refine wpList_load_row rfl 25 _ rfl (w.heap.size + 1) rfl 25 _ (0, 0) _ HJ1.out.c Tryz.underlying25 rfl (aL _ _ _) ?_)
 refine HC2.out.mono ?_
 rintro e w2 ⟨rfl, hb2⟩
 have HJ2 : Hid (JbX w (enA t (.slice sp n cap) (.slice sq m cq)) (enA t' (.slice sp' n' cap') (.slice sq' m' cq')) w2) := HJ1.out.below hb2
 clear hb2 HC2 HJ1 hkk1 HU1
 have hkk2 := HJ2.out.k
 cases hv2 : eY t' b' (l'.map pg)
 ·have HVE : Hid (V = EP 1) := HV.out.symm.trans (OE (.inr hv2))
  clear hv2
  go_upto_region 3 with fail
  go_wp2_with (refine wpList_store_row rfl 25 _ _ rfl (w.heap.size + 2) zEn rfl rfl 25 _ HJ2.out.y (aL ⟨#[]⟩ aM aM) rfl (cJ ⟨#[]⟩ none 0 0 none 0 0) ?_; generalize hw8 : World.setRow w2 _ _ = w8; have HY8 : Hid (w8.heap[w.heap.size + 2]? = some (.cells zEn 25 (0, 0))) := (by rw [← hw8]; exact setRow_heap _ _ _ _ _ _ HJ2.out.y); have HB8 : Hid (Below w.heap.size w w8) := (by rw [← hw8]; exact below_setRow HJ2.out.b (by omega) _); clear hw8)
  exact bodyPost_ret (bT (P := Tryz.prog) rfl _ _ (w.heap.size + 2) 25 _ (0, 0) _ rfl HY8.out Tryz.underlying25 rfl (aL _ _ _)) rfl (by rw [HVE.out]; exact JnR.err HB8.out)
 have HV2 := zh hv2
 clear hv2
 have k1 := GN HJ2.out.a; have k2 := GN HJ2.out.c
 by_cases ht : t = t'
 ·subst ht
  have k3 := pU HJ2.out.a; have k4 := pU HJ2.out.c
  have HU2 := zh (HUP.out w2 HJ2.out.b)
  have HCE := zh (wT sp n cap b sp' n' cap' b' w2 HU2.out.1.1.p HU2.out.1.2.p)
  go_wp2_with fail
  refine HCE.out.mono ?_
  rintro e w2' ⟨rfl, rfl⟩
  by_cases hbb : b = b'
  ·subst hbb
   rw [decide_eq_true rfl]
   go_upto_region 7 with fail
   clear k1 k2 k3 k4 HCE HU2
   obtain ⟨d, hd⟩ : ∃ d, d = dQ t b := ⟨_, rfl⟩
   have HDD := zh hd
   have HDO : Hid (D32 d) := by show D32 d; rw [hd]; exact iX t b
   obtain ⟨D, hD⟩ : ∃ D, D = w2.heap.size := ⟨_, rfl⟩
   have HD := zh hD
   have HD3 : Hid (w.heap.size + 3 ≤ D) := by show _ ≤ _; omega
   clear hd hD
   have HU2 := zh (HUP.out w2 HJ2.out.b)
   have HCV := zh (mU t sp n cap b (.slice sq m cq) w2 HU2.out.1.1.p HU2.out.2.1 HU2.out.2.2)
   go_wp2_with (refine wpList_load_row rfl 25 _ rfl w.heap.size rfl 25 _ (0, 0) _ HJ2.out.a Tryz.underlying25 rfl (aL _ _ _) ?_)
   refine HCV.out.mono ?_
   rintro e w3 ⟨p, rfl, hp, hb⟩
   have HVP : Hid (w3.heap[p]? = some (.cells (dgA d) 43 (0, 0))) := by show _ = _; rw [HDD.out]; exact hp.out.1
   have HJ3 : Hid (JbX w (enA t (.slice sp n cap) (.slice sq m cq)) (enA t (.slice sp' n' cap') (.slice sq' m' cq')) w3) := HJ2.out.below hb
   have hs3 : D ≤ w3.heap.size := by rw [HD.out]; exact hb.size
   clear hb hp HCV HJ2 hkk2 HU2
   have HU3 := zh (HUP.out w3 HJ3.out.b)
   have HCA := zh (pF t sp n cap b sq m cq l w3 HU3.out.1.1.p HU3.out.1.1.pn (by have := HU3.out.1.1.hn; omega) HU3.out.1.1.s (by have := HU3.out.1.1.hm; omega) HU3.out.1.1.lt)
   go_wp2_with (refine wpList_load_row rfl 25 _ rfl w.heap.size rfl 25 _ (0, 0) _ HJ3.out.a Tryz.underlying25 rfl (aL _ _ _) ?_)
   refine HCA.out.mono ?_
   rintro e w4 ⟨spo, capo, sqo, cqo, lo, rfl, hob, hog, hpg, hst, hb⟩
   have HOB4 : Hid (OwnBy w4 D (.slice spo n capo) b) := hob.out.base hs3
   have HOG4 : Hid (OwnG w4 D (.slice sqo m cqo) lo) := hog.out.base hs3
   have HST4 : Hid (∀ y ∈ lo, SgT w4 D y) := fun y hy => (hst.out y hy).base hs3
   have HPG := zh hpg.out
   have HVP4 : Hid (w4.heap[p]? = some (.cells (dgA d) 43 (0, 0))) := (hb.block _ (Array.getElem?_eq_some_iff.1 HVP.out).1).trans HVP.out
   have HJ4 : Hid (JbX w (enA t (.slice sp n cap) (.slice sq m cq)) (enA t (.slice sp' n' cap') (.slice sq' m' cq')) w4) := HJ3.out.below hb
   have hs4 : D ≤ w4.heap.size := Nat.le_trans hs3 hb.size
   clear hob hog hpg hst hb HCA HVP HJ3 hs3 HU3
   have HZS := zh (heap_alloc_new w4 (.cells zEn 25))
   go_upto_region 9 with (refine wpList_store_row rfl 25 _ _ rfl w4.heap.size (enA t (.slice spo n capo) (.slice sqo m cqo)) rfl rfl 25 _ HZS.out (aL _ _ _) rfl (cJ _ _ _ _ _ _ _) ?_; rw [bW]; generalize hw5 : World.alloc w4 _ = w5; have ND : Hid (w5.heap[w4.heap.size]? = some (.cells (enA t (.slice spo n capo) (.slice sqo m cqo)) 25 (0, 0))) := (by rw [← hw5]; exact heap_alloc_new _ _); have sK : Hid (Below w4.heap.size w4 w5) := (by rw [← hw5]; exact aB _ _); have hs5 : w5.heap.size = w4.heap.size + 1 := (by rw [← hw5]; simp); clear hw5 HZS)
   obtain ⟨go, hgo⟩ : ∃ go, go = w4.heap.size := ⟨_, rfl⟩
   have HO5 : Hid (w5.heap[go]? = some (.cells (enA t (.slice spo n capo) (.slice sqo m cqo)) 25 (0, 0))) := by rw [hgo]; exact ND.out
   rw [← hgo]
   have HJ5 : Hid (JbX w (enA t (.slice sp n cap) (.slice sq m cq)) (enA t (.slice sp' n' cap') (.slice sq' m' cq')) w5) := HJ4.out.below sK.out
   have HVP5 : Hid (w5.heap[p]? = some (.cells (dgA d) 43 (0, 0))) := (sK.out.block _ (Array.getElem?_eq_some_iff.1 HVP4.out).1).trans HVP4.out
   have HOB5 := zh (HOB4.out.below sK.out); have HOG5 := zh (HOG4.out.below sK.out)
   have HST5 : Hid (∀ y ∈ lo, SgT w5 D y) := fun y hy => (HST4.out y hy).below sK.out
   have hgo5 : D ≤ go ∧ go < w5.heap.size := ⟨by omega, by omega⟩
   have HGO := zh hgo5
   clear ND hgo sK hs5 HJ4 HVP4 HOB4 HOG4 HST4
   have HU5 := zh (HUP.out w5 HJ5.out.b)
   have HCB := zh (pF t sp' n' cap' b sq' m' cq' l' w5 HU5.out.1.2.p HU5.out.1.2.pn (by have := HU5.out.1.2.hn; omega) HU5.out.1.2.s (by have := HU5.out.1.2.hm; omega) HU5.out.1.2.lt)
   go_wp2_with (refine wpList_load_row rfl 25 _ rfl (w.heap.size + 1) rfl 25 _ (0, 0) _ HJ5.out.c Tryz.underlying25 rfl (aL _ _ _) ?_)
   refine HCB.out.mono ?_
   rintro e w6 ⟨spb, capb, sqb, cqb, lB, rfl, hob, hog, hpg, hst, hb⟩
   have hD6 : D ≤ w5.heap.size := by omega
   have HS6 : Hid (JpS w (enA t (.slice sp n cap) (.slice sq m cq)) (enA t (.slice sp' n' cap') (.slice sq' m' cq')) t d b (.slice spo n capo) go p D (.slice sqo m cqo) (.slice sqo m cqo) (.slice sqb m' cqb) lo lB w6) :=
    ⟨HJ5.out.below hb, (hb.block _ hgo5.2).trans HO5.out, (hb.block _ (Array.getElem?_eq_some_iff.1 HVP5.out).1).trans HVP5.out, HOB5.out.below hb, HOG5.out.below hb, fun y hy => (HST5.out y hy).below hb, hog.out.base hD6, fun y hy => (hst.out y hy).base hD6, fun k h1 h2 => by have h3 := (HOG5.out.1.lt k h1).2; have h4 := bL hog.out.1 k h2; omega, ⟨hgo5.1, HD3.out⟩, Nat.le_trans hD6 hb.size⟩
   have HPB := zh hpg.out
   have hm12 : m ≤ 12 ∧ m' ≤ 12 := ⟨HU5.out.1.1.hm, HU5.out.1.2.hm⟩
   have HLB : Hid (lB.length = m') := by have h := congrArg List.length HPB.out; rw [List.length_map, List.length_map, HU5.out.1.2.s.len] at h; exact h
   have HLO : Hid (lo.length = m) := by have h := congrArg List.length HPG.out; rw [List.length_map, List.length_map, HU5.out.1.1.s.len] at h; exact h
   clear hob hog hpg hst hb HCB HJ5 HVP5 HOB5 HOG5 HST5 HO5 hD6 HU5
   have hfe := GH t spb n' capb sqb m' cqb w6
   go_wp2_with fail
   obtain ⟨EB, hEB⟩ : ∃ EB, EB = (enA t (.slice sp' n' cap') (.slice sq' m' cq')) := ⟨_, rfl⟩
   rw [← hEB] at HS6
   clear hEB
   go_loopw [41] (fun i wr => ∃ (k : Nat) (s3 : Option Addr) (mm c3 : Nat) (lL : List Sg), i = .int .i64 k ∧ k ≤ m' ∧ mm ≤ m + k ∧ Hid (lL.length = mm ∧ lL.map pg = jnL d (l.map pg) ((l'.map pg).take k) ∧ lZ (lL.map pg)) ∧ Hid (JpS w (enA t (.slice sp n cap) (.slice sq m cq)) EB t d b (.slice spo n capo) go p D (.slice s3 mm c3) (.slice s3 mm c3) (.slice sqb m' cqb) lL lB wr)) (fun i _ => m' - (intOf i).toNat)
   case atStart => exact ⟨0, sqo, m, cqo, lo, rfl, Nat.zero_le _, Nat.le_refl _, ⟨HLO.out, HPG.out, by rw [HPG.out]; exact kS (vE HV1.out)⟩, HS6.out⟩
   case round =>
    obtain ⟨k, s3, mm, c3, lL, rfl, hk, hmm, HLL, HS⟩ := hrel
    by_cases hlt : k < m'
    ·have hdl : decide ((k : Int) < (m' : Int)) = true := by simp; omega
     have hmmb : mm ≤ 24 := by have := hm12; omega
     obtain ⟨y, bb, off, hy, hok, hsd, esp, hbb, hcp, hry⟩ := BL (HS.out.h.sgs HLB.out (fun z hz => (HS.out.hd z hz).dat)) hlt
     have HRY := zh hry; have HOK := zh hok; have HYM : Hid (y ∈ lB) := List.mem_of_getElem? hy
     have HT : Hid ((l'.map pg).take (k + 1) = (l'.map pg).take k ++ [pg y]) := by show _ = _; rw [List.take_add_one, ← HPB.out, List.getElem?_map, hy]; rfl
     clear hy hok hsd hbb hry
     subst esp
     have p1 : (0 : Int) ≤ (k : Int) := by omega
     have p2 : (k : Int) < (m' : Int) := by omega
     have HZG := zh (heap_alloc_new wr (.cells zG.toArray 62))
     go_upto_region 12 with (first
      | (refine wpList_load_mid rfl 62 _ rfl bb (off + k * 20) rfl _ _ HRY.out Tryz.underlying62 rfl (fM HOK.out) ?_)
      | (refine wpList_store_row rfl 62 _ _ rfl wr.heap.size (bD y).toArray rfl rfl 62 _ HZG.out (eM HOK.out) (jZ HOK.out) (eU y) ?_; rw [bW]; generalize hw4 : World.alloc wr _ = w7; have HG7' : Hid (GB w7 wr.heap.size y) := (by rw [← hw4]; exact GB.new wr y); have HB7 : Hid (Below wr.heap.size wr w7) := (by rw [← hw4]; exact aB _ _); have hs7 : w7.heap.size = wr.heap.size + 1 := (by rw [← hw4]; simp); clear hw4 HZG))
     obtain ⟨gx, hgx⟩ : ∃ gx, gx = wr.heap.size := ⟨_, rfl⟩
     have HG7 : Hid (GB w7 gx y) := by rw [hgx]; exact HG7'.out
     rw [← hgx]
     have HS7 : Hid (JpS w (enA t (.slice sp n cap) (.slice sq m cq)) EB t d b (.slice spo n capo) go p D (.slice s3 mm c3) (.slice s3 mm c3) (.slice (some ⟨bb, off, none⟩) m' cqb) lL lB w7) := HS.out.below HB7.out
     have hgl : gx < w7.heap.size := by omega
     have hkr := HS.out.k
     have hDx : D ≤ gx := by omega
     clear HG7' hgx hs7 HB7 HS HRY hkr
     have HU7 := zh (HUP.out w7 HS7.out.j.b)
     have HPL := zh (tN s3 mm c3 lL y w7 (HS7.out.g.sgs HLL.out.1 (fun z hz => (HS7.out.gd z hz).dat)) HLL.out.2.2 HOK.out (by omega) HU7.out.2.1 HU7.out.2.2)
     have cS := kP HS7.out.o
     go_wp2_with (refine wpList_load_row rfl 62 _ rfl gx rfl 62 _ (0, 0) _ HG7.out Tryz.underlying62 rfl (eM HOK.out) ?_)
     refine HPL.out.mono ?_
     rintro e w8 ⟨kk, hkk, rfl, hlo, hhi, hb⟩
     have HFH := zh (DG HLL.out.2.2 hlo hhi)
     have HS8 : Hid (JpS w (enA t (.slice sp n cap) (.slice sq m cq)) EB t d b (.slice spo n capo) go p D (.slice s3 mm c3) (.slice s3 mm c3) (.slice (some ⟨bb, off, none⟩) m' cqb) lL lB w8) := HS7.out.below hb
     have HG8 : Hid (GB w8 gx y) := HG7.out.below hb hgl
     have hgl8 : gx < w8.heap.size := by have := hb.size; omega
     clear hb HPL HU7 cS HS7 HG7 hgl
     rw [HFH.out]
     cases hh : pM (lL.map pg) (pg y)
     ·have HMP : Hid ((lL.take kk ++ y :: lL.drop kk).map pg = nA (lL.map pg) (pg y)) := by
       show _ = _
       rw [wK (k := kk) (by rw [List.length_map, HLL.out.1]; exact hkk) hlo hhi, List.map_append, List.map_cons, List.map_take, List.map_drop]
      have HLN : Hid ((lL.take kk ++ y :: lL.drop kk).length = mm + 1) := by show _ = _; have h := congrArg List.length HMP.out; rw [List.length_map, nY, List.length_map, HLL.out.1] at h; exact h
      have HNO := zh hh
      clear hh hlo hhi
      have cS := kP HS8.out.o
      go_wp2_with (first
       | (refine wpList_load_row rfl 62 _ rfl gx rfl 62 _ (0, 0) _ HG8.out Tryz.underlying62 rfl (eM HOK.out) ?_)
       | (refine bR rfl 23 1 [(0, .tmp 58)] rfl [(0, .agg (bD y).toArray)] rfl _ _ (qD _ y HOK.out) ?_; generalize hw9 : World.alloc w8 _ = w9; have HG9 : Hid (GB w9 w8.heap.size y) := (by rw [← hw9]; exact GB.new w8 y); have HB9 : Hid (Below w8.heap.size w8 w9) := (by rw [← hw9]; exact aB _ _); clear hw9))
      clear cS
      have HS9 : Hid (JpS w (enA t (.slice sp n cap) (.slice sq m cq)) EB t d b (.slice spo n capo) go p D (.slice s3 mm c3) (.slice s3 mm c3) (.slice (some ⟨bb, off, none⟩) m' cqb) lL lB w9) := HS8.out.below HB9.out
      refine (GD mm kk lL y w9 D s3 c3 w8.heap.size hkk HLL.out.1 (by omega) HS9.out.g HG9.out HOK.out HS9.out.k (fun j hj => (HS8.out.g.1.lt j hj).2)).mono ?_
      rintro e wA ⟨s9, c9, rfl, HO9, hb9, HGR, hat⟩
      have HSA : Hid (JpS w (enA t (.slice sp n cap) (.slice sq m cq)) EB t d b (.slice spo n capo) go p D (.slice s3 mm c3) (.slice s9 (mm + 1) c9) (.slice (some ⟨bb, off, none⟩) m' cqb) (lL.take kk ++ y :: lL.drop kk) lB wA) := HS9.out.upd HGR.out hb9 HO9.out (fun q hq => by
       rcases List.mem_append.1 hq with h | h
       ·exact .inl (List.mem_of_mem_take h)
       ·rcases List.mem_cons.1 h with rfl | h
        ·exact .inr HYM.out
        ·exact .inl (List.mem_of_mem_drop h)) hat
      clear hb9 HO9 HGR hat HS9 HG9 HB9 HS8 HG8
      have cO := kP HSA.out.o
      have fO := frozen_of_row _ _ 2 _ _ HSA.out.o
      have HSB := zh HSA.out.setS
      go_upto_region 17 with fail
      clear cO fO HSA
      generalize World.setCell wA _ _ = wB at *
      generalize lL.take kk ++ y :: lL.drop kk = l7 at *
      go_wp2_with fail
      go_roundw
      case rel => exact ⟨k + 1, s9, mm + 1, c9, l7, by go_num, by omega, by omega, ⟨HLN.out, by rw [HMP.out, HT.out, nW, ← HLL.out.2.1, CO HNO.out], by rw [HMP.out]; exact nX HLL.out.2.2 HNO.out⟩, HSB.out⟩
      case measure => simp [intOf]; omega
     ·-- MARKF
      obtain ⟨zz, hzz, hzi⟩ : ∃ zz, lL[kk]? = some zz ∧ idP (pg zz) = idP (pg y) := by
       have h := HFH.out.trans hh
       unfold DH at h
       rw [List.getElem?_map] at h
       cases hz : lL[kk]? with
       | none => rw [hz] at h; cases h
       | some zz => rw [hz] at h; exact ⟨zz, rfl, of_decide_eq_true h⟩
      have HZ : Hid ((lL.map pg)[kk]? = some (pg zz)) := by show _ = _; rw [List.getElem?_map, hzz]; rfl
      have HZI := zh hzi; have HZM : Hid (zz ∈ lL) := List.mem_of_getElem? hzz
      have hkl : kk < mm := by have := (List.getElem?_eq_some_iff.1 hzz).1; have := HLL.out.1; omega
      have HOZ : Hid (OkG zz) := HS8.out.g.2 zz HZM.out
      obtain ⟨gS, hs3⟩ : ∃ gS, s3 = some ⟨gS, 0, none⟩ := by
       obtain ⟨b9, off9, e, _⟩ := (HS8.out.g.sgs HLL.out.1 (fun z hz => (HS8.out.gd z hz).dat)).cells (by omega)
       obtain ⟨_, ⟨e2, _⟩ | ⟨gg, c9, cur, e2, _⟩⟩ := HS8.out.g.1
       ·rw [e] at e2; cases e2
       ·injection e2 with e2 _ _; exact ⟨gg, e2⟩
      subst hs3
      have HRZ : Hid (w8.rangeAt gS (kk * 20) (bD zz)) := by
       obtain ⟨b9, off9, e, _, _, hr⟩ := (HS8.out.g.sgs HLL.out.1 (fun z hz => (HS8.out.gd z hz).dat)).cells (by omega)
       injection e with e; injection e with e1 e2; subst e1 e2
       have h := hr kk zz hzz
       rw [Nat.zero_add] at h
       exact h
      have HIZ := zh (fM HOZ.out)
      clear hzz hzi hh hlo hhi
      have q1 : (0 : Int) ≤ (kk : Int) := by omega
      have q2 : (kk : Int) < (mm : Int) := by omega
      have HU8 := zh (HUP.out w8 HS8.out.j.b)
      have HGZ8 : Hid (SgD w8 w8.heap.size zz) := (HS8.out.gd zz HZM.out).dat
      have HVF := zh (vF zz p d w8 HOZ.out HDO.out HGZ8.out HS8.out.v HU8.out.2.1 HU8.out.2.2)
      have cS := kP HS8.out.o
      go_wp2_with (first
       | (refine wpList_load_mid rfl 62 _ rfl gS (kk * 20) rfl _ _ HRZ.out Tryz.underlying62 rfl HIZ.out ?_)
       | (refine bM (by rfl) 62 _ rfl gS (kk * 20) rfl _ _ HRZ.out Tryz.underlying62 rfl HIZ.out ?_))
      refine HVF.out.mono ?_
      rintro e wA ⟨rfl, hb⟩
      have hgS : gS < w8.heap.size := (HS8.out.g.1.lt gS rfl).2
      have HSA : Hid (JpS w (enA t (.slice sp n cap) (.slice sq m cq)) EB t d b (.slice spo n capo) go p D (.slice (some ⟨gS, 0, none⟩) mm c3) (.slice (some ⟨gS, 0, none⟩) mm c3) (.slice (some ⟨bb, off, none⟩) m' cqb) lL lB wA) := HS8.out.below hb
      have HGA : Hid (GB wA gx y) := HG8.out.below hb hgl8
      have HRA : Hid (wA.rangeAt gS (kk * 20) (bD zz)) := aA HRZ.out hb hgS
      have hglA : gx < wA.heap.size := by have := hb.size; omega
      clear hb hgS cS HVF HGZ8 HU8 HRZ HG8 HS8 hgl8
      cases hv1 : kT d (pg zz)
      ·have HUA := zh (HUP.out wA HSA.out.j.b)
       have HGY : Hid (SgD wA wA.heap.size y) := (HSA.out.hd y HYM.out).dat
       have HVX := zh (vF y p d wA HOK.out HDO.out HGY.out HSA.out.v HUA.out.2.1 HUA.out.2.2)
       go_wp2_with (first
        | (refine wpList_load_row rfl 62 _ rfl gx rfl 62 _ (0, 0) _ HGA.out Tryz.underlying62 rfl (eM HOK.out) ?_)
        | (refine bM (by rfl) 62 _ rfl gx 0 rfl _ _ HGA.out.all Tryz.underlying62 rfl (fM HOK.out) ?_))
       refine HVX.out.mono ?_
       rintro e wB ⟨rfl, hb⟩
       have hgS : gS < wA.heap.size := (HSA.out.g.1.lt gS rfl).2
       have HSB : Hid (JpS w (enA t (.slice sp n cap) (.slice sq m cq)) EB t d b (.slice spo n capo) go p D (.slice (some ⟨gS, 0, none⟩) mm c3) (.slice (some ⟨gS, 0, none⟩) mm c3) (.slice (some ⟨bb, off, none⟩) m' cqb) lL lB wB) := HSA.out.below hb
       have HGB : Hid (GB wB gx y) := HGA.out.below hb hglA
       have HRB : Hid (wB.rangeAt gS (kk * 20) (bD zz)) := aA HRA.out hb hgS
       clear hb hgS HVX HGY HUA HRA HGA HSA
       cases hv2 : kT d (pg y)
       ·have HKP : Hid (jnS d (lL.map pg) (pg y) = lL.map pg) := xT HLL.out.2.2 HZ.out HZI.out (.inr hv2)
        go_wp2_with fail
        go_roundw
        case rel => exact ⟨k + 1, some ⟨gS, 0, none⟩, mm, c3, lL, by go_num, by omega, by omega, ⟨HLL.out.1, by rw [HT.out, nW, ← HLL.out.2.1, HKP.out], HLL.out.2.2⟩, HSB.out⟩
        case measure => simp [intOf]; omega
       ·have HST : Hid ((lL.set kk y).map pg = jnS d (lL.map pg) (pg y)) := by show _ = _; rw [LG HLL.out.2.2 HZ.out HZI.out hv1 hv2, List.map_set]
        have cO := kP HSB.out.o
        have hbD := bL HSB.out.g.1 gS rfl
        have HSC : Hid (JpS w (enA t (.slice sp n cap) (.slice sq m cq)) EB t d b (.slice spo n capo) go p D (.slice (some ⟨gS, 0, none⟩) mm c3) (.slice (some ⟨gS, 0, none⟩) mm c3) (.slice (some ⟨bb, off, none⟩) m' cqb) (lL.set kk y) lB (wB.setCells gS (kk * 20) (bD y))) := by
         have HX := HSB.out.upd (jQ gS (bD y) (kk * 20) wB) (fH hbD (bD y) (kk * 20) wB (Below.refl D wB)) (HSB.out.g.setW HLL.out.1 hkl HOK.out) (fun q hq => by
          rcases List.mem_or_eq_of_mem_set hq with h | rfl
          ·exact .inl h
          ·exact .inr HYM.out) (.inl rfl)
         exact ⟨HX.j, HX.o, HX.v, HX.ob, HX.g, HX.gd, HX.h, HX.hd, HX.ap, HX.gp, HX.k⟩
        have HTH : Hid (wB.there gS (kk * 20) 20) := fun j hj => by
         have h20 := aG HOZ.out
         have h1 := HRB.out j (bD zz)[j] (List.getElem?_eq_getElem (by omega))
         obtain ⟨cur, hg⟩ := rN HSB.out.g
         exact ⟨by rw [h1]; rfl, frozen_of_row _ _ _ _ _ hg⟩
        have HSZ : Hid ((bD y).toArray.size = 20) := aG HOK.out
        have HLS : Hid ((lL.set kk y).length = mm) := by show _ = _; rw [List.length_set]; exact HLL.out.1
        clear hbD
        generalize lL.set kk y = l7 at *
        go_wp2_with (first
         | (refine wpList_load_row rfl 62 _ rfl gx rfl 62 _ (0, 0) _ HGB.out Tryz.underlying62 rfl (eM HOK.out) ?_)
         | (refine wpList_store_mid rfl 62 _ _ rfl gS (kk * 20) (bD y).toArray rfl rfl (by rw [HSZ.out]; exact HTH.out) (fM HOK.out) (eU y) ?_; generalize hw8 : World.setCells wB _ _ _ = wD; have HSD : Hid (JpS w (enA t (.slice sp n cap) (.slice sq m cq)) EB t d b (.slice spo n capo) go p D (.slice (some ⟨gS, 0, none⟩) mm c3) (.slice (some ⟨gS, 0, none⟩) mm c3) (.slice (some ⟨bb, off, none⟩) m' cqb) l7 lB wD) := (by rw [← hw8]; exact HSC.out); clear hw8 HSC))
        go_roundw
        case rel => exact ⟨k + 1, some ⟨gS, 0, none⟩, mm, c3, l7, by go_num, by omega, by omega, ⟨HLS.out, by rw [HT.out, nW, ← HLL.out.2.1]; exact HST.out, by rw [HST.out]; exact wH HLL.out.2.2⟩, HSD.out⟩
        case measure => simp [intOf]; omega
      ·have HKP : Hid (jnS d (lL.map pg) (pg y) = lL.map pg) := xT HLL.out.2.2 HZ.out HZI.out (.inl hv1)
       go_wp2_with fail
       go_roundw
       case rel => exact ⟨k + 1, some ⟨gS, 0, none⟩, mm, c3, lL, by go_num, by omega, by omega, ⟨HLL.out.1, by rw [HT.out, nW, ← HLL.out.2.1, HKP.out], HLL.out.2.2⟩, HSA.out⟩
       case measure => simp [intOf]; omega
    ·have hdl : decide ((k : Int) < (m' : Int)) = false := by simp; omega
     obtain rfl : k = m' := by omega
     have HLF : Hid (lL.map pg = jnL d (l.map pg) (l'.map pg)) := by have h := HLL.out.2.1; rwa [List.take_of_length_le (by rw [← HPB.out, List.length_map, HLB.out]; exact Nat.le_refl _)] at h
     have HLN : Hid ((jnL (dQ t b) (l.map pg) (l'.map pg)).length = mm) := by show _ = _; rw [← HDD.out, ← HLF.out, List.length_map]; exact HLL.out.1
     have cO := kP HS.out.o
     by_cases h8 : 8 < mm
     ·have hq : decide ((mm : Int) > 8) = true := by simp; omega
      have HVE : Hid (V = EP 3) := HV.out.symm.trans (jnV_3 HV1.out HV2.out (by rw [HLN.out]; exact h8))
      have HJR := zh HS.out.j
      go_upto_region 19 with fail
      go_wp2_with (refine wpList_store_row rfl 25 _ _ rfl (w.heap.size + 2) zEn rfl rfl 25 _ HJR.out.y (aL ⟨#[]⟩ aM aM) rfl (cJ ⟨#[]⟩ none 0 0 none 0 0) ?_; generalize hw8 : World.setRow wr _ _ = w8; have HY8 : Hid (w8.heap[w.heap.size + 2]? = some (.cells zEn 25 (0, 0))) := (by rw [← hw8]; exact setRow_heap _ _ _ _ _ _ HJR.out.y); have HB8 : Hid (Below w.heap.size w w8) := (by rw [← hw8]; exact below_setRow HJR.out.b (by omega) _); clear hw8)
      exact bodyPost_ret (bT (P := Tryz.prog) rfl _ _ (w.heap.size + 2) 25 _ (0, 0) _ rfl HY8.out Tryz.underlying25 rfl (aL _ _ _)) rfl (by rw [HVE.out]; exact JnR.err HB8.out)
     ·have hq : decide ((mm : Int) > 8) = false := by simp; omega
      have HVE : Hid (V = ⟨0, t, b, jnL (dQ t b) (l.map pg) (l'.map pg)⟩) := HV.out.symm.trans (jnV_0 HV1.out HV2.out (by rw [HLN.out]; exact h8))
      go_upto_region 20 with fail
      go_wp2_with (first
       | (refine wpList_load_row rfl 25 _ rfl go rfl 25 _ (0, 0) _ HS.out.o Tryz.underlying25 rfl (aL _ _ _) ?_)
       | (refine wpList_store_row rfl 25 _ _ rfl (w.heap.size + 2) (enA t (.slice spo n capo) (.slice s3 mm c3)) rfl rfl 25 _ HS.out.j.y (aL _ _ _) rfl (cJ _ _ _ _ _ _ _) ?_; generalize hw8 : World.setRow wr _ _ = w8; have HY8 : Hid (w8.heap[w.heap.size + 2]? = some (.cells (enA t (.slice spo n capo) (.slice s3 mm c3)) 25 (0, 0))) := (by rw [← hw8]; exact setRow_heap _ _ _ _ _ _ HS.out.j.y); have HB8 : Hid (Below w.heap.size w w8) := (by rw [← hw8]; exact below_setRow HS.out.j.b (by omega) _); have HG8 : Hid (OwnG w8 D (.slice s3 mm c3) lL) := (by rw [← hw8]; exact ⟨World.ownsRow.kept HS.out.g.1 (cR _ _ _) (cF HS.out.g.1 HS.out.j.y (by decide)), HS.out.g.2⟩); have HD8 : Hid (∀ y ∈ lL, SgT w8 D y) := (by rw [← hw8]; exact fun y hy => (HS.out.gd y hy).setRow HS.out.j.y rO _); have PT : Hid (OwnBy w8 D (.slice spo n capo) b) := (by rw [← hw8]; exact HS.out.ob.setRow HS.out.j.y (by decide) _); clear hw8))
      exact bodyPost_ret (bT (P := Tryz.prog) rfl _ _ (w.heap.size + 2) 25 _ (0, 0) _ rfl HY8.out Tryz.underlying25 rfl (aL _ _ _)) rfl (by rw [HVE.out]; exact ⟨spo, n, capo, s3, mm, c3, lL, rfl, (PT.out.bsrc ((HUP.out w8 HB8.out).1.1.p.len)).1, HG8.out.sgs HLL.out.1 (fun y hy => (HD8.out y hy).dat), by rw [← HDD.out]; exact HLF.out, HB8.out⟩)
  ·have hq : decide (b = b') = false := decide_eq_false hbb
   rw [hq]
   have HVE : Hid (V = EP 9) := HV.out.symm.trans (OD HV1.out HV2.out (.inr hbb))
   go_upto_region 6 with fail
   go_wp2_with (refine wpList_store_row rfl 25 _ _ rfl (w.heap.size + 2) zEn rfl rfl 25 _ HJ2.out.y (aL ⟨#[]⟩ aM aM) rfl (cJ ⟨#[]⟩ none 0 0 none 0 0) ?_; generalize hw8 : World.setRow w2 _ _ = w8; have HY8 : Hid (w8.heap[w.heap.size + 2]? = some (.cells zEn 25 (0, 0))) := (by rw [← hw8]; exact setRow_heap _ _ _ _ _ _ HJ2.out.y); have HB8 : Hid (Below w.heap.size w w8) := (by rw [← hw8]; exact below_setRow HJ2.out.b (by omega) _); clear hw8)
   exact bodyPost_ret (bT (P := Tryz.prog) rfl _ _ (w.heap.size + 2) 25 _ (0, 0) _ rfl HY8.out Tryz.underlying25 rfl (aL _ _ _)) rfl (by rw [HVE.out]; exact JnR.err HB8.out)
 ·have hl0 : ¬ t.toList = t'.toList := fun e => ht (OR e)
  have hq : (t.toList == t'.toList) = false := by simpa using hl0
  have hq3 : decide (t.toList = t'.toList) = false := decide_eq_false hl0
  have HVE : Hid (V = EP 9) := HV.out.symm.trans (OD HV1.out HV2.out (.inl ht))
  go_upto_region 6 with fail
  go_wp2_with (refine wpList_store_row rfl 25 _ _ rfl (w.heap.size + 2) zEn rfl rfl 25 _ HJ2.out.y (aL ⟨#[]⟩ aM aM) rfl (cJ ⟨#[]⟩ none 0 0 none 0 0) ?_; generalize hw8 : World.setRow w2 _ _ = w8; have HY8 : Hid (w8.heap[w.heap.size + 2]? = some (.cells zEn 25 (0, 0))) := (by rw [← hw8]; exact setRow_heap _ _ _ _ _ _ HJ2.out.y); have HB8 : Hid (Below w.heap.size w w8) := (by rw [← hw8]; exact below_setRow HJ2.out.b (by omega) _); clear hw8)
  exact bodyPost_ret (bT (P := Tryz.prog) rfl _ _ (w.heap.size + 2) 25 _ (0, 0) _ rfl HY8.out Tryz.underlying25 rfl (aL _ _ _)) rfl (by rw [HVE.out]; exact JnR.err HB8.out)
end Go.Proofs.YtcligodahogpkaaGreatDoor
