/-
  Keys of many one-time keys: the walk of Verify (conditions: the lists read as halves; the table of constants reads as it is laid).
-/
import Derived.Test.YtcligodahogpkaaGreatDoorZip
import Derived.Test.YtcligodahogpkaaGreatDoorGs
set_option maxRecDepth 100000
set_option maxHeartbeats 8000000
namespace Go.Proofs.YtcligodahogpkaaGreatDoor
open Go.RowKit Go.Proofs.YtcligodahogpkaaGreatDoor.One
theorem bM {P : Program} {ops : Array Oper} {rest : List Oper} {o : Oper} {a : Act} {w : World} {Q : Exit → Act → World → Prop} (hw : Region.wanted o (yielded ops a.tmps) = true) (ty : TypeId) (x : Operand) (ho : o.op = .load ty x)
 (b k : Nat) (hx : a.eval x = .pointer (some ⟨b, k, none⟩)) (cs : List Value) (d : TypeDesc) (hc : w.rangeAt b k cs)
 (hu : P.underlying ty = some d) (hd : d.isRow = true) (hi : (P.info? ty).map (·.size) = some cs.length)
 (h : wpList P ops Q rest (a.put o.dst (.agg cs.toArray)) w) : wpList P ops Q (o :: rest) a w :=
 wpList_step fun K hK => by rw [if_pos hw]; exact wp_load_mid ty x ho b k hx cs d hc hu hd hi (hK _ _ h)
structure VfBox (w : World) (h : Int) (r d : List Int) (l : Int) (c p : Value) (w0 : World) : Prop where
 k : w0.heap[w.heap.size]? = some (.cells (pkA h r) 56 (0, 0))
 d : w0.heap[w.heap.size + 1]? = some (.cells (dgA d) 43 (0, 0))
 s : w0.heap[w.heap.size + 1 + 1]? = some (.cells (siA l c p) 60 (0, 0))
 b : Below w.heap.size w w0
 z : w0.heap.size = w.heap.size + 3
theorem VfBox.new (w : World) (h : Int) (r d : List Int) (l : Int) (c p : Value) : VfBox w h r d l c p (((w.alloc (.cells (pkA h r) 56)).alloc (.cells (dgA d) 43)).alloc (.cells (siA l c p) 60)) := by
 have h1 := heap_alloc_new w (.cells (pkA h r) 56)
 have b1 := aB w (.cells (pkA h r) 56)
 have s1 := aK w (.cells (pkA h r) 56)
 generalize w.alloc (.cells (pkA h r) 56) = w1 at *
 have h2 := heap_alloc_new w1 (.cells (dgA d) 43)
 have b2 := aB w1 (.cells (dgA d) 43)
 have s2 := aK w1 (.cells (dgA d) 43)
 generalize w1.alloc (.cells (dgA d) 43) = w2 at *
 have h3 := heap_alloc_new w2 (.cells (siA l c p) 60)
 have b3 := aB w2 (.cells (siA l c p) 60)
 have s3 := aK w2 (.cells (siA l c p) 60)
 generalize w2.alloc (.cells (siA l c p) 60) = w3 at *
 have b23 := b2.trans (b3.mono (by omega))
 refine ⟨(b23.block _ (by omega)).trans h1, ?_, ?_, b1.trans (b23.mono (by omega)), by omega⟩
 ·rw [← s1]; exact (b3.block _ (by omega)).trans h2
 ·rw [← s1, ← s2]; exact h3
def IN (h : Int) (r d : List Int) (l : Int) (n m : Nat) (cl pl : List (List Int)) : Bool := lC h l n m && decide (pZ pl (FN l d cl) l.toNat h.toNat = r)
theorem eqHM (X Y : List Int) (hX : X.length = 16) (hY : Y.length = 16) (w : World) : (Op.equalIn 10000 54 (.agg (X.map (Value.int .u8)).toArray) (.agg (Y.map (Value.int .u8)).toArray)).run Tryz.prog w = .ok (decide (X = Y)) w := by
 have h := eqHE X Y hX hY w
 unfold hvA at h
 exact h
theorem AW (h : Int) (r d : List Int) (l : Int) (sp1 : Option Addr) (n c1 : Nat) (sp2 : Option Addr) (m c2 : Nat) (w : World) (hr : H16 r) (hshp : lC h l n m = false) :
 Calls Tryz.prog 56 #[.agg (pkA h r), .agg (dgA d), .agg (siA l (.slice sp1 n c1) (.slice sp2 m c2))] w fun e w' => e = .returned (.bool false) ∧ Below w.heap.size w w' := by
 have jG := zh hr; have HSHP := zh hshp; clear hr hshp
 have HT := zh (VfBox.new w h r d l (.slice sp1 n c1) (.slice sp2 m c2))
 go_enter Tryz.func56, Tryz.ntmps56
 go_upto_region 1 with (fail)
 generalize hw0 : World.alloc (World.alloc (World.alloc w _) _) _ = w0
 have HT0 : Hid (VfBox w h r d l (.slice sp1 n c1) (.slice sp2 m c2) w0) := by rw [← hw0]; exact HT.out
 clear hw0 HT
 have hs0 : w.heap.size + 3 ≤ w0.heap.size := Nat.le_of_eq HT0.out.z.symm
 have k2 := rH HT0.out.s
 have k3 := zH HT0.out.s
 have k4 := vJ HT0.out.s
 go_wp2_with (refine wpList_load_row rfl 56 _ rfl w.heap.size rfl 56 _ (0, 0) _ HT0.out.k Tryz.underlying56 rfl (eI jG.out) ?_)
 clear k2 k3 k4
 refine (mE h r l sp1 n c1 sp2 m c2 w0 jG.out).mono ?_
 rintro e w1 ⟨rfl, hb1⟩
 rw [HSHP.out]
 have HB1 := zh hb1; clear hb1
 go_wp2_with fail
 go_ret
 exact ⟨rfl, HT0.out.b.trans (HB1.out.mono (by omega))⟩
theorem yV (h : Nat) (r d : List Int) (leaf : Nat) (sp1 : Option Addr) (c1 : Nat) (sp2 : Option Addr) (c2 : Nat) (cl pl : List (List Int)) (w : World) (hr : H16 r) (hd : D32 d) (hh : h ≤ 6) (hl : leaf < 2 ^ h) (hc : HvsIn w w.heap.size sp1 68 c1 cl) (hp : HvsIn w w.heap.size sp2 h c2 pl) (hk : KayIn w) (hk0 : 1 < w.heap.size) :
 Calls Tryz.prog 56 #[.agg (pkA (h : Int) r), .agg (dgA d), .agg (siA (leaf : Int) (.slice sp1 68 c1) (.slice sp2 h c2))] w fun e w' => e = .returned (.bool (decide (pZ pl (FN leaf d cl) leaf h = r))) ∧ Below w.heap.size w w' := by
 have jG := zh hr; have HD := zh hd; have HC := zh hc; have HP := zh hp; have HK := zh hk
 have HSHP : Hid (lC (h : Int) (leaf : Int) 68 h = true) := by
  show _ = _
  unfold lC
  rw [decide_eq_true]
  refine ⟨by omega, by omega, ?_, rfl, rfl⟩
  unfold lvN; rw [Int.toNat_natCast]; omega
 have h64 : leaf ≤ 64 := by have : 2 ^ h ≤ 2 ^ 6 := Nat.pow_le_pow_right (by omega) hh; omega
 have HIR := zh (cQ hr)
 have PM := zh (lJ (leaf : Int) d cl)
 have HEQ := zh (fun w' => eqHM (pZ pl (FN leaf d cl) leaf h) r (rC (lJ _ _ _) leaf h).1 hr.1 w')
 clear hr hd hc hp hk hl
 have HT := zh (VfBox.new w h r d leaf (.slice sp1 68 c1) (.slice sp2 h c2))
 go_enter Tryz.func56, Tryz.ntmps56
 go_upto_region 1 with (fail)
 generalize hw0 : World.alloc (World.alloc (World.alloc w _) _) _ = w0
 have HT0 : Hid (VfBox w (h : Int) r d (leaf : Int) (.slice sp1 68 c1) (.slice sp2 h c2) w0) := by rw [← hw0]; exact HT.out
 clear hw0 HT
 have hs0 : w.heap.size + 3 ≤ w0.heap.size := Nat.le_of_eq HT0.out.z.symm
 have k2 := rH HT0.out.s
 have k3 := zH HT0.out.s
 have k4 := vJ HT0.out.s
 go_wp2_with (refine wpList_load_row rfl 56 _ rfl w.heap.size rfl 56 _ (0, 0) _ HT0.out.k Tryz.underlying56 rfl (eI jG.out) ?_)
 clear k2 k3 k4
 refine (mE (h : Int) r (leaf : Int) sp1 68 c1 sp2 h c2 w0 jG.out).mono ?_
 rintro e w1 ⟨rfl, hb1⟩
 rw [HSHP.out]
 have HB1 := zh hb1; clear hb1
 have HSs1 : Hid (w1.heap[w.heap.size + 1 + 1]? = some (.cells (siA leaf (.slice sp1 68 c1) (.slice sp2 h c2)) 60 (0, 0))) := (HB1.out.block _ (by omega)).trans HT0.out.s
 have HSd1 : Hid (w1.heap[w.heap.size + 1]? = some (.cells (dgA d) 43 (0, 0))) := (HB1.out.block _ (by omega)).trans HT0.out.d
 have HSk1 : Hid (w1.heap[w.heap.size]? = some (.cells (pkA h r) 56 (0, 0))) := (HB1.out.block _ (by omega)).trans HT0.out.k
 have IG : Hid (Below w.heap.size w w1) := HT0.out.b.trans (HB1.out.mono (by omega))
 have hs1 := HB1.out.size
 clear HT0 HB1
 have k2 := rH HSs1.out
 have k3 := zH HSs1.out
 go_wp2_with (refine wpList_load_row rfl 43 _ rfl (w.heap.size + 1) rfl 43 _ (0, 0) _ HSd1.out Tryz.underlying43 rfl (rS HD.out) ?_)
 clear k2 k3
 have HK1 : Hid (KayIn w1) := HK.out.below IG.out hk0
 refine (vS leaf d sp1 c1 cl w1 HD.out ((HC.out.below IG.out (Nat.le_refl _)).more (by omega)) HK1.out (by omega)).mono ?_
 rintro e w2 ⟨rfl, hb2⟩
 have HSs2 : Hid (w2.heap[w.heap.size + 1 + 1]? = some (.cells (siA leaf (.slice sp1 68 c1) (.slice sp2 h c2)) 60 (0, 0))) := (hb2.block _ (by omega)).trans HSs1.out
 have HSk2 : Hid (w2.heap[w.heap.size]? = some (.cells (pkA h r) 56 (0, 0))) := (hb2.block _ (by omega)).trans HSk1.out
 have MW : Hid (Below w.heap.size w w2) := IG.out.trans (hb2.mono (by omega))
 have hs2 : w.heap.size + 3 ≤ w2.heap.size := by have := hb2.size; omega
 clear hb2
 generalize hsr : FN (leaf : Int) d cl = s at PM
 have HSR := zh hsr; clear hsr
 have HZN := zh (Zro.new w2)
 have HRB := zh (RowB.new w2 54 s)
 go_wp2_with (first
  | (refine wpList_store_row rfl 54 _ _ rfl w2.heap.size _ rfl rfl 54 _ HZN.out.z (aN PM.out) (dH PM.out) (dG _) ?_; rw [bW]; generalize hw3 : World.alloc w2 _ = w3; have HR3 : Hid (RowB w2 54 s w3) := (by rw [← hw3]; exact HRB.out); clear hw3 HZN HRB; have HSs3 : Hid (w3.heap[w.heap.size + 1 + 1]? = some (.cells (siA leaf (.slice sp1 68 c1) (.slice sp2 h c2)) 60 (0, 0))) := ((HR3.out.b.block _ (by omega)).trans HSs2.out); have k2 := rH HSs3.out; have k4 := vJ HSs3.out))
 clear k2 k4
 have HSk3 : Hid (w3.heap[w.heap.size]? = some (.cells (pkA h r) 56 (0, 0))) := (HR3.out.b.block _ (by omega)).trans HSk2.out
 have QJ : Hid (Below w.heap.size w w3) := MW.out.trans (HR3.out.b.mono (by omega))
 have HP3 : Hid (HvsIn w3 w.heap.size sp2 h c2 pl) := HP.out.below QJ.out (Nat.le_refl _)
 have HK3 : Hid (KayIn w3) := HK.out.below QJ.out hk0
 have HN3 : Hid (w3.heap[w2.heap.size]? = some (.cells (hvA s) 54 (0, 0))) := HR3.out.r
 have hs3 : w2.heap.size < w3.heap.size := by have := HR3.out.s; omega
 clear HR3 HSs2 HSk2 MW HSs3 HSs1 HSk1 HSd1 IG HK1
 generalize w2.heap.size = gn at *
 go_loopw [9, 32] (fun u v wr => ∃ k : Nat, k ≤ h ∧ u = .int .i64 ((leaf / 2 ^ k : Nat) : Int) ∧ v = .int .i64 (k : Int) ∧ Hid (wr.heap[gn]? = some (.cells (hvA (pZ pl s leaf k)) 54 (0, 0))) ∧ Hid (Below gn w3 wr) ∧ gn + 1 ≤ wr.heap.size) (fun _ v _ => h - (intOf v).toNat)
 case atStart => exact ⟨0, by omega, by simp, rfl, HN3.out, Below.refl _ _, hs3⟩
 case round =>
  clear HN3
  obtain ⟨k, hkh, rfl, rfl, HNR, HBR, hsr⟩ := hrel
  by_cases hlt : k < h
  ·have hd1 : decide ((k : Int) < (h : Int)) = true := by simp; omega
   have p1 : (0 : Int) ≤ (k : Int) := by omega
   have p2 : (k : Int) < (h : Int) := by omega
   have HWS := zh (sQ pl s leaf k)
   have HJS : Hid (leaf / 2 ^ (k + 1) = leaf / 2 ^ k / 2) := oZ leaf k
   have dR := zh (rC (p := pl) PM.out leaf k)
   obtain ⟨sb, so, rfl, hsb, hcc, hrr⟩ := HP3.out.cells (by omega)
   have HYR : Hid (wr.rangeAt sb (so + k * 16) ((pl.getD k []).map (Value.int .u8))) := aA (hrr k hlt) HBR.out (by omega)
   have jL := zh (HP3.out.at16 hlt)
   have p3 : (h : Int) ≤ (c2 : Int) := by omega
   have hile : leaf / 2 ^ k ≤ 64 := Nat.le_trans (Nat.div_le_self _ _) h64
   clear hrr
   generalize pZ pl s leaf k = x at *
   generalize pl.getD k [] = y at *
   generalize leaf / 2 ^ k = i at *
   obtain ⟨j, hj⟩ : ∃ j : Nat, i / 2 = j := ⟨_, rfl⟩
   rw [hj] at HWS HJS
   have hq : (i : Int) / 2 = (j : Int) := by omega
   clear hj
   have HIX := zh (cQ dR.out); have HIY := zh (cQ jL.out)
   have HZN := zh (Zro.new wr)
   have HRB := zh (RowB.new wr 54 y)
   go_upto_region 8 with (first
    | (refine wpList_load_mid rfl 54 _ rfl sb (so + k * 16) rfl _ _ HYR.out Tryz.underlying54 rfl HIY.out ?_)
    | (refine wpList_store_row rfl 54 _ _ rfl wr.heap.size _ rfl rfl 54 _ HZN.out.z (aN jL.out) (dH jL.out) (dG _) ?_; rw [bW]; generalize hwn : World.alloc wr _ = wn; have HRn : Hid (RowB wr 54 y wn) := (by rw [← hwn]; exact HRB.out); clear hwn HZN HRB))
   have HNn : Hid (wn.heap[gn]? = some (.cells (hvA x) 54 (0, 0))) := (HRn.out.b.block _ (by omega)).trans HNR.out
   have HYn : Hid (wn.heap[wr.heap.size]? = some (.cells (hvA y) 54 (0, 0))) := HRn.out.r
   have HBN : Hid (Below gn w3 wn) := HBR.out.trans (HRn.out.b.mono (by omega))
   have hsn : wr.heap.size + 1 ≤ wn.heap.size := Nat.le_of_eq HRn.out.s.symm
   clear HRn
   refine wp_region_held_drew (S := fun w' => w'.heap[gn]? = some (.cells (hvA x) 54 (0, 0)) ∧ w'.heap[wr.heap.size]? = some (.cells (hvA y) 54 (0, 0))) (by kernel_rfl) ⟨HNn.out, HYn.out⟩ (fun hHeld => ?_)
   refine' zk 0 rfl (v := _) (yieldsIf_load_mid (by rfl) _ _ rfl _ _ rfl _ _ ?hS0n1 Tryz.underlying54 rfl HIX.out) ?rest0n1
   case hS0n1 =>
    intro w' hSw
    exact aV hSw.1
   try simp only [Act.put, zA, zB, zC, zD, zE, zF]
   refine' zk 1 rfl (v := _) (yieldsIf_load_mid (by rfl) _ _ rfl _ _ rfl _ _ ?hS1n2 Tryz.underlying54 rfl HIY.out) ?rest1n2
   case hS1n2 =>
    intro w' hSw
    exact aV hSw.2
   try simp only [Act.put, zA, zB, zC, zD, zE, zF]
   refine zs 2 3 rfl (fun K hK => ?_) rfl (fun K hK => ?_)
   ·have HO := zh (Zro.new wn)
    go_simp
    generalize hw : World.drew (World.alloc wn _) = wp
    have ED : Hid (Zro wn wp) := by rw [← hw]; exact ⟨HO.out.z, HO.out.b.drew, HO.out.s⟩
    clear hw HO
    have hzwp : wn.heap.size + 1 ≤ wp.heap.size := Nat.le_of_eq ED.out.s.symm
    have HN1 : Hid (wp.heap[gn]? = some (.cells (hvA x) 54 (0, 0))) := (ED.out.b.block _ (by omega)).trans HNn.out
    have HY1 : Hid (wp.heap[wr.heap.size]? = some (.cells (hvA y) 54 (0, 0))) := (ED.out.b.block _ (by omega)).trans HYn.out
    refine hK.out _ _ ⟨HN1.out, HY1.out⟩ fun _ => ?_; clear hK K
    try simp only [Act.put, zA, zB, zC, zD, zE, zF]
    refine zr 3 rfl (fun K hK => ?_)
    have HO := zh (Zro.new wp)
    go_simp
    generalize hw : World.alloc wp _ = wq
    have AF : Hid (Zro wp wq) := by rw [← hw]; exact HO.out
    clear hw HO
    have hzwq : wp.heap.size + 1 ≤ wq.heap.size := Nat.le_of_eq AF.out.s.symm
    have HN2 : Hid (wq.heap[gn]? = some (.cells (hvA x) 54 (0, 0))) := (AF.out.b.block _ (by omega)).trans HN1.out
    have HY2 : Hid (wq.heap[wr.heap.size]? = some (.cells (hvA y) 54 (0, 0))) := (AF.out.b.block _ (by omega)).trans HY1.out
    refine hK.out _ _ ⟨HN2.out, HY2.out⟩ fun _ => ?_; clear hK K
    try simp only [Act.put, zA, zB, zC, zD, zE, zF]
    have HBq : Hid (Below gn w3 wq) := HBN.out.trans ((ED.out.b.mono (by omega)).trans (AF.out.b.mono (by omega)))
    have HZ1q : Hid (wq.heap[wn.heap.size]? = some (.cells (Array.replicate 16 (Value.int .u8 0)) 54 (0, 0))) := (AF.out.b.block _ (by omega)).trans ED.out.z
    have HZ2q : Hid (wq.heap[wp.heap.size]? = some (.cells (Array.replicate 16 (Value.int .u8 0)) 54 (0, 0))) := AF.out.z
    refine zr 4 rfl (fun K hK => ?_)
    rw [if_pos (by rfl)]
    refine wp_store_row 54 _ _ rfl (wn.heap.size) (hvA x) rfl rfl 54 _ HZ1q.out (aN dR.out) (dH dR.out) (dG _) ?_
    generalize hw : World.setRow wq _ _ = w7
    have H12s : Hid (w7.heap[wn.heap.size]? = some (.cells (hvA x) 54 (0, 0))) := by rw [← hw]; exact setRow_heap _ _ _ _ _ _ HZ1q.out
    have QP : Hid (w7.heap[wp.heap.size]? = some (.cells (Array.replicate 16 (Value.int .u8 0)) 54 (0, 0))) := by rw [← hw]; exact (setRow_other _ _ _ _ (by omega)).trans HZ2q.out
    have HN7 : Hid (w7.heap[gn]? = some (.cells (hvA x) 54 (0, 0))) := by rw [← hw]; exact (setRow_other _ _ _ _ (by omega)).trans HN2.out
    have HY7 : Hid (w7.heap[wr.heap.size]? = some (.cells (hvA y) 54 (0, 0))) := by rw [← hw]; exact (setRow_other _ _ _ _ (by omega)).trans HY2.out
    have HB7 : Hid (Below gn w3 w7) := by rw [← hw]; exact below_setRow HBq.out (by omega) _
    have hs7 : wq.heap.size ≤ w7.heap.size := by rw [← hw]; simp [World.setRow]
    clear hw
    skip
    refine hK.out _ _ ⟨HN7.out, HY7.out⟩ fun _ => ?_; clear hK K
    try simp only [Act.put, zA, zB, zC, zD, zE, zF]
    refine zr 5 rfl (fun K hK => ?_)
    rw [if_pos (by rfl)]
    refine wp_store_row 54 _ _ rfl (wp.heap.size) (hvA y) rfl rfl 54 _ QP.out (aN jL.out) (dH jL.out) (dG _) ?_
    generalize hw : World.setRow w7 _ _ = w8
    have H12 : Hid (w8.heap[wn.heap.size]? = some (.cells (hvA x) 54 (0, 0))) := by rw [← hw]; exact (setRow_other _ _ _ _ (by omega)).trans H12s.out
    have H13 : Hid (w8.heap[wp.heap.size]? = some (.cells (hvA y) 54 (0, 0))) := by rw [← hw]; exact setRow_heap _ _ _ _ _ _ QP.out
    have HN8 : Hid (w8.heap[gn]? = some (.cells (hvA x) 54 (0, 0))) := by rw [← hw]; exact (setRow_other _ _ _ _ (by omega)).trans HN7.out
    have HY8 : Hid (w8.heap[wr.heap.size]? = some (.cells (hvA y) 54 (0, 0))) := by rw [← hw]; exact (setRow_other _ _ _ _ (by omega)).trans HY7.out
    have HB8 : Hid (Below gn w3 w8) := by rw [← hw]; exact below_setRow HB7.out (by omega) _
    have hs8 : wq.heap.size ≤ w8.heap.size := by rw [← hw]; simp [World.setRow]; omega
    clear hw
    skip
    refine hK.out _ _ ⟨HN8.out, HY8.out⟩ fun _ => ?_; clear hK K
    try simp only [Act.put, zA, zB, zC, zD, zE, zF]
    refine zd ?_ _
    by_cases hodd : i % 2 = 1
    ·have hp1 : ((i : Int) % 2 == 1) = true := by simp; omega
     have HA16 := zh jL.out; have HB16 := zh dR.out
     go_wp2_with (first
      | (refine wpList_load_row rfl 54 _ rfl (wp.heap.size) rfl 54 _ (0, 0) _ H13.out Tryz.underlying54 rfl (aN jL.out) ?_)
      | (refine wpList_load_row rfl 54 _ rfl (wn.heap.size) rfl 54 _ (0, 0) _ H12.out Tryz.underlying54 rfl (aN dR.out) ?_)
      | (refine wpList_store_row rfl 54 _ _ rfl (wn.heap.size) _ rfl rfl 54 _ H12.out (aN jL.out) (by simp [hvA, dR.out.1, jL.out.1]) (dG _) ?_; generalize hw9 : World.setRow w8 _ _ = w9; have H12a : Hid (w9.heap[wn.heap.size]? = some (.cells (hvA y) 54 (0, 0))) := (by rw [← hw9]; exact setRow_heap _ _ _ _ _ _ H12.out); have QQ : Hid (w9.heap[wp.heap.size]? = some (.cells (hvA y) 54 (0, 0))) := (by rw [← hw9]; exact (setRow_other _ _ _ _ (by omega)).trans H13.out); have HN9 : Hid (w9.heap[gn]? = some (.cells (hvA x) 54 (0, 0))) := (by rw [← hw9]; exact (setRow_other _ _ _ _ (by omega)).trans HN8.out); have HB9 : Hid (Below gn w3 w9) := (by rw [← hw9]; exact below_setRow HB8.out (by omega) _); have hs9 : gn + 3 ≤ w9.heap.size := (by rw [← hw9]; simp [World.setRow]; omega); clear hw9)
      | (refine wpList_store_row rfl 54 _ _ rfl (wp.heap.size) _ rfl rfl 54 _ QQ.out (aN dR.out) (by simp [hvA, dR.out.1, jL.out.1]) (dG _) ?_; generalize hwa : World.setRow w9 _ _ = wa; have H13b : Hid (wa.heap[wp.heap.size]? = some (.cells (hvA x) 54 (0, 0))) := (by rw [← hwa]; exact setRow_heap _ _ _ _ _ _ QQ.out); have H12b : Hid (wa.heap[wn.heap.size]? = some (.cells (hvA y) 54 (0, 0))) := (by rw [← hwa]; exact (setRow_other _ _ _ _ (by omega)).trans H12a.out); have HNb : Hid (wa.heap[gn]? = some (.cells (hvA x) 54 (0, 0))) := (by rw [← hwa]; exact (setRow_other _ _ _ _ (by omega)).trans HN9.out); have HBb : Hid (Below gn w3 wa) := (by rw [← hwa]; exact below_setRow HB9.out (by omega) _); have hsb : gn + 3 ≤ wa.heap.size := (by rw [← hwa]; simp [World.setRow]; omega); clear hwa)
      | (refine wpList_load_row rfl 54 _ rfl (wn.heap.size) rfl 54 _ (0, 0) _ H12b.out Tryz.underlying54 rfl (aN jL.out) ?_)
      | (refine wpList_load_row rfl 54 _ rfl (wp.heap.size) rfl 54 _ (0, 0) _ H13b.out Tryz.underlying54 rfl (aN dR.out) ?_))
     have HKb : Hid (KayIn wa) := HK3.out.below HBb.out (by omega)
     refine (lM k j y x wa jL.out dR.out HKb.out (by omega)).mono ?_
     rintro e wc ⟨rfl, hbc⟩
     have HBc := zh hbc
     have HNc : Hid (wc.heap[gn]? = some (.cells (hvA x) 54 (0, 0))) := (hbc.block _ (by omega)).trans HNb.out
     have MV : Hid (Below gn w3 wc) := HBb.out.trans (hbc.mono (by omega))
     have hsc := hbc.size
     clear hbc
     have HJ : Hid (pZ pl s leaf (k + 1) = eZ k j y x) := by show _ = _; rw [HWS.out, if_pos (by omega)]
     go_wp2_with (refine wpList_store_row rfl 54 _ _ rfl gn _ rfl rfl 54 _ HNc.out (aN (bO _ _ _ _)) (by simp [hvA, dR.out.1, (bO (k : Int) (j : Int) y x).1]) (dG _) ?_; generalize hwd : World.setRow wc _ _ = wd; have HNd : Hid (wd.heap[gn]? = some (.cells (hvA (eZ k j y x)) 54 (0, 0))) := (by rw [← hwd]; exact setRow_heap _ _ _ _ _ _ HNc.out); have HBd : Hid (Below gn w3 wd) := (by rw [← hwd]; exact below_setRow MV.out (Nat.le_refl _) _); have hsd : gn + 1 ≤ wd.heap.size := (by rw [← hwd]; simp [World.setRow]; omega); clear hwd)
     go_roundw
     case rel => exact ⟨k + 1, by omega, by rw [HJS.out], by go_num, by rw [HJ.out]; exact HNd.out, HBd.out, hsd⟩
     case measure => simp [intOf]; omega
    ·have hp1 : ((i : Int) % 2 == 1) = false := by simp; omega
     go_wp2_with (first
      | (refine wpList_load_row rfl 54 _ rfl (wn.heap.size) rfl 54 _ (0, 0) _ H12.out Tryz.underlying54 rfl (aN dR.out) ?_)
      | (refine wpList_load_row rfl 54 _ rfl (wp.heap.size) rfl 54 _ (0, 0) _ H13.out Tryz.underlying54 rfl (aN jL.out) ?_))
     have HKb : Hid (KayIn w8) := HK3.out.below HB8.out (by omega)
     refine (lM k j x y w8 dR.out jL.out HKb.out (by omega)).mono ?_
     rintro e wc ⟨rfl, hbc⟩
     have HBc := zh hbc
     have HNc : Hid (wc.heap[gn]? = some (.cells (hvA x) 54 (0, 0))) := (hbc.block _ (by omega)).trans HN8.out
     have MV : Hid (Below gn w3 wc) := HB8.out.trans (hbc.mono (by omega))
     have hsc := hbc.size
     clear hbc
     have HJ : Hid (pZ pl s leaf (k + 1) = eZ k j x y) := by show _ = _; rw [HWS.out, if_neg (by omega)]
     go_wp2_with (refine wpList_store_row rfl 54 _ _ rfl gn _ rfl rfl 54 _ HNc.out (aN (bO _ _ _ _)) (by simp [hvA, dR.out.1, (bO (k : Int) (j : Int) x y).1]) (dG _) ?_; generalize hwd : World.setRow wc _ _ = wd; have HNd : Hid (wd.heap[gn]? = some (.cells (hvA (eZ k j x y)) 54 (0, 0))) := (by rw [← hwd]; exact setRow_heap _ _ _ _ _ _ HNc.out); have HBd : Hid (Below gn w3 wd) := (by rw [← hwd]; exact below_setRow MV.out (Nat.le_refl _) _); have hsd : gn + 1 ≤ wd.heap.size := (by rw [← hwd]; simp [World.setRow]; omega); clear hwd)
     go_roundw
     case rel => exact ⟨k + 1, by omega, by rw [HJS.out], by go_num, by rw [HJ.out]; exact HNd.out, HBd.out, hsd⟩
     case measure => simp [intOf]; omega
   ·have HO := zh (Zro.new wn)
    go_simp
    generalize hw : World.drew (World.alloc wn _) = wp
    have ED : Hid (Zro wn wp) := by rw [← hw]; exact ⟨HO.out.z, HO.out.b.drew, HO.out.s⟩
    clear hw HO
    have hzwp : wn.heap.size + 1 ≤ wp.heap.size := Nat.le_of_eq ED.out.s.symm
    have HN1 : Hid (wp.heap[gn]? = some (.cells (hvA x) 54 (0, 0))) := (ED.out.b.block _ (by omega)).trans HNn.out
    have HY1 : Hid (wp.heap[wr.heap.size]? = some (.cells (hvA y) 54 (0, 0))) := (ED.out.b.block _ (by omega)).trans HYn.out
    refine hK.out _ _ ⟨HN1.out, HY1.out⟩ fun _ => ?_; clear hK K
    try simp only [Act.put, zA, zB, zC, zD, zE, zF]
    refine zr 2 rfl (fun K hK => ?_)
    have HO := zh (Zro.new wp)
    go_simp
    generalize hw : World.alloc wp _ = wq
    have AF : Hid (Zro wp wq) := by rw [← hw]; exact HO.out
    clear hw HO
    have hzwq : wp.heap.size + 1 ≤ wq.heap.size := Nat.le_of_eq AF.out.s.symm
    have HN2 : Hid (wq.heap[gn]? = some (.cells (hvA x) 54 (0, 0))) := (AF.out.b.block _ (by omega)).trans HN1.out
    have HY2 : Hid (wq.heap[wr.heap.size]? = some (.cells (hvA y) 54 (0, 0))) := (AF.out.b.block _ (by omega)).trans HY1.out
    refine hK.out _ _ ⟨HN2.out, HY2.out⟩ fun _ => ?_; clear hK K
    try simp only [Act.put, zA, zB, zC, zD, zE, zF]
    have HBq : Hid (Below gn w3 wq) := HBN.out.trans ((ED.out.b.mono (by omega)).trans (AF.out.b.mono (by omega)))
    have HZ1q : Hid (wq.heap[wn.heap.size]? = some (.cells (Array.replicate 16 (Value.int .u8 0)) 54 (0, 0))) := (AF.out.b.block _ (by omega)).trans ED.out.z
    have HZ2q : Hid (wq.heap[wp.heap.size]? = some (.cells (Array.replicate 16 (Value.int .u8 0)) 54 (0, 0))) := AF.out.z
    refine zr 4 rfl (fun K hK => ?_)
    rw [if_pos (by rfl)]
    refine wp_store_row 54 _ _ rfl (wp.heap.size) (hvA x) rfl rfl 54 _ HZ2q.out (aN dR.out) (dH dR.out) (dG _) ?_
    generalize hw : World.setRow wq _ _ = w7
    have H12s : Hid (w7.heap[wp.heap.size]? = some (.cells (hvA x) 54 (0, 0))) := by rw [← hw]; exact setRow_heap _ _ _ _ _ _ HZ2q.out
    have QP : Hid (w7.heap[wn.heap.size]? = some (.cells (Array.replicate 16 (Value.int .u8 0)) 54 (0, 0))) := by rw [← hw]; exact (setRow_other _ _ _ _ (by omega)).trans HZ1q.out
    have HN7 : Hid (w7.heap[gn]? = some (.cells (hvA x) 54 (0, 0))) := by rw [← hw]; exact (setRow_other _ _ _ _ (by omega)).trans HN2.out
    have HY7 : Hid (w7.heap[wr.heap.size]? = some (.cells (hvA y) 54 (0, 0))) := by rw [← hw]; exact (setRow_other _ _ _ _ (by omega)).trans HY2.out
    have HB7 : Hid (Below gn w3 w7) := by rw [← hw]; exact below_setRow HBq.out (by omega) _
    have hs7 : wq.heap.size ≤ w7.heap.size := by rw [← hw]; simp [World.setRow]
    clear hw
    skip
    refine hK.out _ _ ⟨HN7.out, HY7.out⟩ fun _ => ?_; clear hK K
    try simp only [Act.put, zA, zB, zC, zD, zE, zF]
    refine zr 5 rfl (fun K hK => ?_)
    rw [if_pos (by rfl)]
    refine wp_store_row 54 _ _ rfl (wn.heap.size) (hvA y) rfl rfl 54 _ QP.out (aN jL.out) (dH jL.out) (dG _) ?_
    generalize hw : World.setRow w7 _ _ = w8
    have H12 : Hid (w8.heap[wp.heap.size]? = some (.cells (hvA x) 54 (0, 0))) := by rw [← hw]; exact (setRow_other _ _ _ _ (by omega)).trans H12s.out
    have H13 : Hid (w8.heap[wn.heap.size]? = some (.cells (hvA y) 54 (0, 0))) := by rw [← hw]; exact setRow_heap _ _ _ _ _ _ QP.out
    have HN8 : Hid (w8.heap[gn]? = some (.cells (hvA x) 54 (0, 0))) := by rw [← hw]; exact (setRow_other _ _ _ _ (by omega)).trans HN7.out
    have HY8 : Hid (w8.heap[wr.heap.size]? = some (.cells (hvA y) 54 (0, 0))) := by rw [← hw]; exact (setRow_other _ _ _ _ (by omega)).trans HY7.out
    have HB8 : Hid (Below gn w3 w8) := by rw [← hw]; exact below_setRow HB7.out (by omega) _
    have hs8 : wq.heap.size ≤ w8.heap.size := by rw [← hw]; simp [World.setRow]; omega
    clear hw
    skip
    refine hK.out _ _ ⟨HN8.out, HY8.out⟩ fun _ => ?_; clear hK K
    try simp only [Act.put, zA, zB, zC, zD, zE, zF]
    refine zd ?_ _
    by_cases hodd : i % 2 = 1
    ·have hp1 : ((i : Int) % 2 == 1) = true := by simp; omega
     have HA16 := zh jL.out; have HB16 := zh dR.out
     go_wp2_with (first
      | (refine wpList_load_row rfl 54 _ rfl (wn.heap.size) rfl 54 _ (0, 0) _ H13.out Tryz.underlying54 rfl (aN jL.out) ?_)
      | (refine wpList_load_row rfl 54 _ rfl (wp.heap.size) rfl 54 _ (0, 0) _ H12.out Tryz.underlying54 rfl (aN dR.out) ?_)
      | (refine wpList_store_row rfl 54 _ _ rfl (wp.heap.size) _ rfl rfl 54 _ H12.out (aN jL.out) (by simp [hvA, dR.out.1, jL.out.1]) (dG _) ?_; generalize hw9 : World.setRow w8 _ _ = w9; have H12a : Hid (w9.heap[wp.heap.size]? = some (.cells (hvA y) 54 (0, 0))) := (by rw [← hw9]; exact setRow_heap _ _ _ _ _ _ H12.out); have QQ : Hid (w9.heap[wn.heap.size]? = some (.cells (hvA y) 54 (0, 0))) := (by rw [← hw9]; exact (setRow_other _ _ _ _ (by omega)).trans H13.out); have HN9 : Hid (w9.heap[gn]? = some (.cells (hvA x) 54 (0, 0))) := (by rw [← hw9]; exact (setRow_other _ _ _ _ (by omega)).trans HN8.out); have HB9 : Hid (Below gn w3 w9) := (by rw [← hw9]; exact below_setRow HB8.out (by omega) _); have hs9 : gn + 3 ≤ w9.heap.size := (by rw [← hw9]; simp [World.setRow]; omega); clear hw9)
      | (refine wpList_store_row rfl 54 _ _ rfl (wn.heap.size) _ rfl rfl 54 _ QQ.out (aN dR.out) (by simp [hvA, dR.out.1, jL.out.1]) (dG _) ?_; generalize hwa : World.setRow w9 _ _ = wa; have H13b : Hid (wa.heap[wn.heap.size]? = some (.cells (hvA x) 54 (0, 0))) := (by rw [← hwa]; exact setRow_heap _ _ _ _ _ _ QQ.out); have H12b : Hid (wa.heap[wp.heap.size]? = some (.cells (hvA y) 54 (0, 0))) := (by rw [← hwa]; exact (setRow_other _ _ _ _ (by omega)).trans H12a.out); have HNb : Hid (wa.heap[gn]? = some (.cells (hvA x) 54 (0, 0))) := (by rw [← hwa]; exact (setRow_other _ _ _ _ (by omega)).trans HN9.out); have HBb : Hid (Below gn w3 wa) := (by rw [← hwa]; exact below_setRow HB9.out (by omega) _); have hsb : gn + 3 ≤ wa.heap.size := (by rw [← hwa]; simp [World.setRow]; omega); clear hwa)
      | (refine wpList_load_row rfl 54 _ rfl (wp.heap.size) rfl 54 _ (0, 0) _ H12b.out Tryz.underlying54 rfl (aN jL.out) ?_)
      | (refine wpList_load_row rfl 54 _ rfl (wn.heap.size) rfl 54 _ (0, 0) _ H13b.out Tryz.underlying54 rfl (aN dR.out) ?_))
     have HKb : Hid (KayIn wa) := HK3.out.below HBb.out (by omega)
     refine (lM k j y x wa jL.out dR.out HKb.out (by omega)).mono ?_
     rintro e wc ⟨rfl, hbc⟩
     have HBc := zh hbc
     have HNc : Hid (wc.heap[gn]? = some (.cells (hvA x) 54 (0, 0))) := (hbc.block _ (by omega)).trans HNb.out
     have MV : Hid (Below gn w3 wc) := HBb.out.trans (hbc.mono (by omega))
     have hsc := hbc.size
     clear hbc
     have HJ : Hid (pZ pl s leaf (k + 1) = eZ k j y x) := by show _ = _; rw [HWS.out, if_pos (by omega)]
     go_wp2_with (refine wpList_store_row rfl 54 _ _ rfl gn _ rfl rfl 54 _ HNc.out (aN (bO _ _ _ _)) (by simp [hvA, dR.out.1, (bO (k : Int) (j : Int) y x).1]) (dG _) ?_; generalize hwd : World.setRow wc _ _ = wd; have HNd : Hid (wd.heap[gn]? = some (.cells (hvA (eZ k j y x)) 54 (0, 0))) := (by rw [← hwd]; exact setRow_heap _ _ _ _ _ _ HNc.out); have HBd : Hid (Below gn w3 wd) := (by rw [← hwd]; exact below_setRow MV.out (Nat.le_refl _) _); have hsd : gn + 1 ≤ wd.heap.size := (by rw [← hwd]; simp [World.setRow]; omega); clear hwd)
     go_roundw
     case rel => exact ⟨k + 1, by omega, by rw [HJS.out], by go_num, by rw [HJ.out]; exact HNd.out, HBd.out, hsd⟩
     case measure => simp [intOf]; omega
    ·have hp1 : ((i : Int) % 2 == 1) = false := by simp; omega
     go_wp2_with (first
      | (refine wpList_load_row rfl 54 _ rfl (wp.heap.size) rfl 54 _ (0, 0) _ H12.out Tryz.underlying54 rfl (aN dR.out) ?_)
      | (refine wpList_load_row rfl 54 _ rfl (wn.heap.size) rfl 54 _ (0, 0) _ H13.out Tryz.underlying54 rfl (aN jL.out) ?_))
     have HKb : Hid (KayIn w8) := HK3.out.below HB8.out (by omega)
     refine (lM k j x y w8 dR.out jL.out HKb.out (by omega)).mono ?_
     rintro e wc ⟨rfl, hbc⟩
     have HBc := zh hbc
     have HNc : Hid (wc.heap[gn]? = some (.cells (hvA x) 54 (0, 0))) := (hbc.block _ (by omega)).trans HN8.out
     have MV : Hid (Below gn w3 wc) := HB8.out.trans (hbc.mono (by omega))
     have hsc := hbc.size
     clear hbc
     have HJ : Hid (pZ pl s leaf (k + 1) = eZ k j x y) := by show _ = _; rw [HWS.out, if_neg (by omega)]
     go_wp2_with (refine wpList_store_row rfl 54 _ _ rfl gn _ rfl rfl 54 _ HNc.out (aN (bO _ _ _ _)) (by simp [hvA, dR.out.1, (bO (k : Int) (j : Int) x y).1]) (dG _) ?_; generalize hwd : World.setRow wc _ _ = wd; have HNd : Hid (wd.heap[gn]? = some (.cells (hvA (eZ k j x y)) 54 (0, 0))) := (by rw [← hwd]; exact setRow_heap _ _ _ _ _ _ HNc.out); have HBd : Hid (Below gn w3 wd) := (by rw [← hwd]; exact below_setRow MV.out (Nat.le_refl _) _); have hsd : gn + 1 ≤ wd.heap.size := (by rw [← hwd]; simp [World.setRow]; omega); clear hwd)
     go_roundw
     case rel => exact ⟨k + 1, by omega, by rw [HJS.out], by go_num, by rw [HJ.out]; exact HNd.out, HBd.out, hsd⟩
     case measure => simp [intOf]; omega
  ·obtain rfl : k = h := by omega
   have hd1 : decide ((k : Int) < (k : Int)) = false := by simp
   have HSkr : Hid (wr.heap[w.heap.size]? = some (.cells (pkA k r) 56 (0, 0))) := (HBR.out.block _ (by omega)).trans HSk3.out
   have HRr := zh (pk_r HSkr.out)
   have HIW := zh (rC (p := pl) PM.out leaf k)
   have HNQ : Hid (wr.rangeAt gn 0 ((pZ pl s leaf k).map (Value.int .u8))) := aV HNR.out
   have heq := HEQ.out wr
   rw [HSR.out] at heq
   go_wp2_with (first
    | (refine bM (by rfl) 54 _ rfl gn 0 rfl _ _ HNQ.out Tryz.underlying54 rfl (cQ HIW.out) ?_)
    | (refine bM (by rfl) 54 _ rfl w.heap.size 1 rfl _ _ HRr.out Tryz.underlying54 rfl HIR.out ?_))
   go_ret
   refine ⟨?_, QJ.out.trans (HBR.out.mono (by omega))⟩
   rw [HSR.out]
   rfl
theorem yW (h : Int) (r d : List Int) (l : Int) (sp1 : Option Addr) (n c1 : Nat) (sp2 : Option Addr) (m c2 : Nat) (cl pl : List (List Int)) (w : World) (hr : H16 r) (hd : D32 d) (hc : HvsIn w w.heap.size sp1 n c1 cl) (hp : HvsIn w w.heap.size sp2 m c2 pl) (hk : KayIn w) (hk0 : 1 < w.heap.size) :
 Calls Tryz.prog 56 #[.agg (pkA h r), .agg (dgA d), .agg (siA l (.slice sp1 n c1) (.slice sp2 m c2))] w fun e w' => e = .returned (.bool (IN h r d l n m cl pl)) ∧ Below w.heap.size w w' := by
 by_cases hs : lC h l n m = true
 ·have hs2 := hs
  unfold lC at hs2
  obtain ⟨⟨h0, h6⟩, l0, l1, rfl, hm⟩ := of_decide_eq_true hs2
  obtain ⟨k, rfl⟩ : ∃ k : Nat, h = (k : Int) := ⟨h.toNat, by omega⟩
  obtain ⟨leaf, rfl⟩ : ∃ leaf : Nat, l = (leaf : Int) := ⟨l.toNat, by omega⟩
  obtain rfl : m = k := by omega
  unfold lvN at l1
  rw [Int.toNat_natCast] at l1
  have hv := yV m r d leaf sp1 c1 sp2 c2 cl pl w hr hd (by omega) (by omega) hc hp hk hk0
  unfold IN
  rw [hs, Bool.true_and, Int.toNat_natCast, Int.toNat_natCast]
  exact hv
 ·have hs2 : lC h l n m = false := by simpa using hs
  unfold IN
  rw [hs2, Bool.false_and]
  exact AW h r d l sp1 n c1 sp2 m c2 w hr hs2
end Go.Proofs.YtcligodahogpkaaGreatDoor
