/-
  The walk of EnvelopeSigns (conditions: the arguments read as envelopes, cases and signers; the table of constants reads as it is laid).
-/
import Derived.Test.YtjeiiabpdoelpaaGreatDoorZip
import Derived.Test.YtjeiiabpdoelpaaGreatDoorEnvV
import Derived.Test.YtjeiiabpdoelpaaGreatDoorEnvU
import Derived.Test.YtjeiiabpdoelpaaGreatDoorEnvQ
namespace Go.Proofs.YtjeiiabpdoelpaaGreatDoor
open Go.RowKit Go.Proofs.YtjeiiabpdoelpaaGreatDoor.One
theorem xF {x : List Int} (hx : H16 x) (h n m : Int) : (sgA x h n).setIfInBounds 16 (.int .i64 m) = sgA x m n := by
 unfold sgA sgL
 rw [List.setIfInBounds_toArray, List.set_append_right _ _ (by rw [List.length_map, hx.1]; exact Nat.le_refl _), List.length_map, hx.1]; rfl
structure SB3 (w : World) (EA CC SA : Array Value) (w' : World) : Prop where
 e : w'.heap[w.heap.size]? = some (.cells EA 25 (0, 0))
 c : w'.heap[w.heap.size + 1]? = some (.cells CC 27 (0, 0))
 s : w'.heap[w.heap.size + 2]? = some (.cells SA 39 (0, 0))
 b : Below w.heap.size w w'
 k : w.heap.size + 3 ≤ w'.heap.size
theorem SB3.new (w : World) (EA CC SA : Array Value) : SB3 w EA CC SA (((w.alloc (.cells EA 25)).alloc (.cells CC 27)).alloc (.cells SA 39)) := by
 have h1 := heap_alloc_new w (.cells EA 25)
 have h2 := heap_alloc_new (w.alloc (.cells EA 25)) (.cells CC 27)
 have h3 := heap_alloc_new ((w.alloc (.cells EA 25)).alloc (.cells CC 27)) (.cells SA 39)
 rw [World.size_alloc] at h2
 rw [World.size_alloc, World.size_alloc] at h3
 exact ⟨(heap_alloc_old _ _ (by simp only [World.size_alloc]; omega)).trans ((heap_alloc_old _ _ (by simp)).trans h1), (heap_alloc_old _ _ (by simp)).trans h2, h3, (((Below.refl _ _).alloc (Nat.le_refl _) _).alloc (by simp) _).alloc (by simp only [World.size_alloc]; omega) _, by simp only [World.size_alloc]; omega⟩
theorem SB3.below {w : World} {EA CC SA : Array Value} {w1 w2 : World} (h : SB3 w EA CC SA w1) (hb : Below w1.heap.size w1 w2) : SB3 w EA CC SA w2 := by
 have h1 := h.k; have h2 := hb.size
 exact ⟨(hb.block _ (by omega)).trans h.e, (hb.block _ (by omega)).trans h.c, (hb.block _ (by omega)).trans h.s, h.b.trans (hb.mono (by omega)), by omega⟩
theorem SB3.setH {w : World} {EA CC : Array Value} {x : List Int} {h n : Int} {w1 : World} (hx : H16 x) (hh : SB3 w EA CC (sgA x h n) w1) (m : Int) : SB3 w EA CC (sgA x m n) (w1.setCell ⟨w.heap.size + 2, 16, none⟩ (.int .i64 m)) :=
 ⟨(heap_setCell_other _ _ _ _ (by show w.heap.size ≠ w.heap.size + 2; omega)).trans hh.e, (heap_setCell_other _ _ _ _ (by show w.heap.size + 1 ≠ w.heap.size + 2; omega)).trans hh.c, by rw [heap_setCell_same _ _ _ _ _ _ hh.s, xF hx], hh.b.setCell (by show w.heap.size ≤ w.heap.size + 2; omega) _, Nat.le_trans hh.k (lC _ _ _)⟩
set_option maxRecDepth 100000 in
set_option maxHeartbeats 8000000 in
theorem lL (t : ByteArray) (sp : Option Addr) (n cap : Nat) (b : List UInt8) (sq : Option Addr) (m cq : Nat) (l : List Sg) (sp0 : Option Addr) (n0 cap0 : Nat) (b0 : List UInt8) (sc : Option Addr) (nc cc : Nat) (sn : List UInt8) (kk yy : Int) (x : List Int) (h n' : Int) (w : World) (hp : BSrc w w.heap.size sp n cap b) (hpn : sp = none → cap = 0) (hl : SgsIn w w.heap.size sq m cq l) (hln : sq = none → cq = 0) (hp0 : BSrc w w.heap.size sp0 n0 cap0 b0) (hp0n : sp0 = none → cap0 = 0) (hn0 : n0 ≤ cap0) (hs : BSrc w w.heap.size sc nc cc sn) (hyy : 0 ≤ yy ∧ yy < 256) (hx : H16 x) (hk : KayIn w) (hk0 : 1 < w.heap.size) :
 Calls Tryz.prog 4 #[.agg (enA t (.slice sp n cap) (.slice sq m cq)), .agg (caA (.slice sp0 n0 cap0) (.slice sc nc cc) kk yy), .agg (sgA x h n')] w fun e w' => e = .returned (.bool true) ∧ Below w.heap.size w w' := by
 have HP := Lib.hid hp; have HPN := Lib.hid hpn; have HL := Lib.hid hl; have HLN := Lib.hid hln; have HP0 := Lib.hid hp0; have HP0N := Lib.hid hp0n; have HSN := Lib.hid hs; have HK := Lib.hid hk; have HY := Lib.hid hyy; have HN0 := Lib.hid hn0; have HX := Lib.hid hx
 have HB3 := Lib.hid (SB3.new w (enA t (.slice sp n cap) (.slice sq m cq)) (caA (.slice sp0 n0 cap0) (.slice sc nc cc) kk yy) (sgA x h n'))
 clear hp hpn hl hln hp0 hp0n hs hk hyy hn0 hx
 go_enter Tryz.func4, Tryz.ntmps4
 go_upto_region 1 with fail
 generalize hw0 : World.alloc (World.alloc (World.alloc w _) _) _ = w0
 have HQ0 : Hid (SB3 w (enA t (.slice sp n cap) (.slice sq m cq)) (caA (.slice sp0 n0 cap0) (.slice sc nc cc) kk yy) (sgA x h n') w0) := by rw [← hw0]; exact HB3.out
 clear hw0 HB3
 have hs0 := HQ0.out.k
 have HCL := Lib.hid (xU t (.slice sp n cap) sp n cap rfl sq m cq l w0 ((HL.out.below HQ0.out.b (Nat.le_refl _)).below (Below.refl w0.heap.size w0) (by omega)))
 go_upto_region 2 with (refine wpList_load_row rfl 25 _ rfl w.heap.size rfl 25 _ (0, 0) _ HQ0.out.e Tryz.underlying25 rfl (aP _ _ _) ?_)
 refine HCL.out.mono ?_
 rintro e w1 ⟨bl, rfl, hlt, hb⟩
 have HQ1 : Hid (SB3 w (enA t (.slice sp n cap) (.slice sq m cq)) (caA (.slice sp0 n0 cap0) (.slice sc nc cc) kk yy) (sgA x h n') w1) := HQ0.out.below hb
 clear hb HCL HQ0 hs0
 cases bl
 ·go_wp2_with fail
  go_ret
  exact ⟨rfl, HQ1.out.b⟩
 have OE := Lib.hid (hlt rfl)
 clear hlt
 have cH := xE HX.out HQ1.out.s
 have fH := frozen_of_row _ _ 16 _ _ HQ1.out.s
 go_upto_region 3 with fail
 go_cut [25] (fun s25 wx => s25 = .bool (decide (1 < h) && decide (h ≤ 6)) ∧ wx = w1)
 case first =>
  by_cases h1 : h > 1
  ·have q1 : decide (h > 1) = true := by simpa using h1
   by_cases h2 : h ≤ 6
   ·have q2 : decide (h ≤ 6) = true := by simpa using h2
    go_wp2_with fail
    go_meet
    exact ⟨by rw [q2, show decide (1 < h) = true from q1]; rfl, rfl⟩
   ·have q2 : decide (h ≤ 6) = false := by simpa using h2
    go_wp2_with fail
    go_meet
    exact ⟨by rw [q2, Bool.and_false], rfl⟩
  ·have q1 : decide (h > 1) = false := by simpa using h1
   go_wp2_with fail
   go_meet
   exact ⟨by rw [show decide (1 < h) = false from q1]; rfl, rfl⟩
 case rest =>
 obtain ⟨rfl, e1⟩ := hcut
 subst e1
 rename_i hK0
 refine hK0 _ _ ?_
 clear hK0
 go_cut [6] (fun s6 wx => s6 = .bool false ∧ ∃ h' : Int, Hid (SB3 w (enA t (.slice sp n cap) (.slice sq m cq)) (caA (.slice sp0 n0 cap0) (.slice sc nc cc) kk yy) (sgA x h' n') wx))
 case first =>
  cases decide (1 < h) && decide (h ≤ 6)
  ·go_wp2_with fail
   go_meet
   exact ⟨rfl, h, HQ1.out⟩
  ·go_wp2_with fail
   go_meet
   exact ⟨rfl, 1, SB3.setH HX.out HQ1.out 1⟩
 case rest =>
 obtain ⟨rfl, h', HQ2⟩ := hcut
 clear cH fH HQ1
 have hK1 := ‹∀ (a : Act) (w : World), Code.wp _ _ _ a w → _›
 refine hK1 _ _ ?_
 clear hK1
 obtain ⟨w2, hw2⟩ : ∃ w2, w2 = wc := ⟨_, rfl⟩
 subst hw2
 have HE2 := Lib.hid HQ2.out.e
 have HC2 := Lib.hid HQ2.out.c
 have HEX : Hid (EvX w2 t sp n cap b sq m cq l) := ⟨OE.out.2.1, OE.out.1, OE.out.2.2.1, (HP.out.below HQ2.out.b (Nat.le_refl _)).more HQ2.out.b.size, HPN.out, HL.out.up HQ2.out.b (Nat.le_refl _), HLN.out, fun y hy => by have := OE.out.2.2.2 y hy; omega⟩
 obtain ⟨B, hBe⟩ : ∃ B, B = w2.heap.size := ⟨_, rfl⟩
 have CJ : Hid (Blks B w2 w2 []) := Blks.start (Below.refl _ _) (Nat.le_of_eq hBe)
 have hk2 := HQ2.out.k
 have HLT : Hid (w.heap.size < B ∧ w.heap.size + 1 < B) := ⟨by omega, by omega⟩
 have HBe := Lib.hid hBe
 have HCM : Hid (∀ w', Below B w2 w' → Calls Tryz.prog 11 #[.agg (caL (.slice sp0 n0 cap0) (.slice sc nc cc) kk yy).toArray] w' (MdX w')) := fun w' hb => by
  have hbb : Below w.heap.size w w' := HQ2.out.b.trans (hb.mono (by have := HLT.out; omega))
  exact (EM n0 cap0 sp0 b0 sc nc cc sn kk yy w' ((HP0.out.below hbb (Nat.le_refl _)).more hbb.size) HP0N.out ((HSN.out.below hbb (Nat.le_refl _)).more hbb.size) HN0.out HY.out).mono fun e w'' hh => hh.X
 clear hBe hk2
 go_upto_region 5 with fail
 go_cut [30, 31, 32] (fun s13 s14 s15 wx => ∃ gR, s13 = .slice (some ⟨gR, 0, none⟩) 2 2 ∧ s14 = .int .i64 2 ∧ s15 = .int .i64 0 ∧ Hid (EvR wx gR ∧ Below B w2 wx))
 case first =>
  as_aux_lemma =>
   refine wp_region_held_drew (S := fun w' => Below B w2 w') (by kernel_rfl) CJ.out.b.drew (fun hHeld => ?_)
   refine' zk 0 rfl (v := _) (yieldsIf_load_mid (by rfl) _ _ rfl _ _ rfl _ _ ?hS0n1 Tryz.underlying25 rfl (iD _ _ _)) ?rest0n1
   case hS0n1 =>
    intro w' hSw
    exact aT (L := (enL t (.slice sp n cap) (.slice sq m cq))) ((hSw.block _ HLT.out.1).trans HE2.out)
   try simp only [Act.put, zA, zB, zC, zD, zE, zF]
   refine' zk 1 rfl (v := _) (yieldsIf_load_mid (by rfl) _ _ rfl _ _ rfl _ _ ?hS1n2 Tryz.underlying27 rfl (MR _ _ _ _)) ?rest1n2
   case hS1n2 =>
    intro w' hSw
    exact aT (L := (caL (.slice sp0 n0 cap0) (.slice sc nc cc) kk yy)) ((hSw.block _ HLT.out.2).trans HC2.out)
   try simp only [Act.put, zA, zB, zC, zD, zE, zF]
   refine zw 5 rfl (v := ?_) ?_ ?_; rotate_left
   ·intro w' hSw; go_simp; try with_reducible rfl
   try simp only [Act.put, zA, zB, zC, zD, zE, zF]
   refine zr 2 rfl (fun K hK => ?_)
   go_simp
   with_reducible refine (HCM.out _ (CJ.out.drew).b).mono ?_
   rintro e v1 ⟨⟨t2, a1, n1, c1, b2, a2, n2, c2, l2, rfl, hev⟩, hb⟩
   have cV := Lib.hid (CJ.out.call ((Below.refl _ _).drew.trans hb))
   have HEVv1 := Lib.hid hev
   clear hev
   clear hb
   go_wp2_with fail
   refine hK.out _ _ cV.out.b (fun hHeld => ?_); clear hK K
   refine zr 3 rfl (fun K hK => ?_)
   rw [if_pos (by rfl)]
   refine aY 30 2 [(0, .tmp 27), (1, .tmp 29)] rfl [(0, .agg (enL t (.slice sp n cap) (.slice sq m cq)).toArray), (1, .agg (enL t2 (.slice a1 n1 c1) (.slice a2 n2 c2)).toArray)] rfl _ _ (IK _ _ _ _ _ _ _) ?_
   obtain ⟨gR, v2, hg, hw, bB, iL⟩ := cV.out.allocd (.cells ((enL t (.slice sp n cap) (.slice sq m cq)) ++ (enL t2 (.slice a1 n1 c1) (.slice a2 n2 c2))).toArray 25 (0, 0))
   go_simp
   try rw [hg]
   generalize hq : World.alloc v1 _ = q
   obtain rfl : v2 = q := hw.symm.trans hq
   clear hg hw hq
   have HEVv2 := Lib.hid (HEVv1.out.below iL.out)
   refine hK.out _ _ bB.out.b (fun hHeld => ?_); clear hK K
   refine zw 4 rfl (v := ?_) ?_ ?_; rotate_left
   ·intro w' hSw; go_simp; try with_reducible rfl
   try simp only [Act.put, zA, zB, zC, zD, zE, zF]
   refine zd ?_ _
   go_wp2_with fail
   go_meet
   exact ⟨gR, rfl, rfl, rfl, EvR.of (bB.out.at 0 rfl) (HEX.out.below (show Below w2.heap.size w2 v2 from by rw [← HBe.out]; exact bB.out.b)) HEVv2.out, bB.out.b⟩
 case rest =>
 obtain ⟨gR, rfl, rfl, rfl, HQ⟩ := hcut
 clear CJ HCM HEX HE2 HC2 OE HP HL HP0 HSN
 go_wp2_with fail
 go_loopw [32] (fun i wr => ∃ k : Nat, i = .int .i64 k ∧ k ≤ 2 ∧ Hid (EvR wr gR) ∧ Hid (SB3 w (enA t (.slice sp n cap) (.slice sq m cq)) (caA (.slice sp0 n0 cap0) (.slice sc nc cc) kk yy) (sgA x h' n') wr)) (fun i _ => 2 - (intOf i).toNat)
 case atStart => exact ⟨0, rfl, by omega, HQ.out.1, HQ2.out.below (by rw [← HBe.out]; exact HQ.out.2)⟩
 case round =>
  obtain ⟨k, rfl, hk2, HR, HS⟩ := hrel
  by_cases hlt : k < 2
  ·have hd : decide ((k : Int) < 2) = true := by simp; omega
   obtain ⟨tx, px, nx, cx, bx, qx, mx, dx, lx, hev, hrow⟩ := HR.out.e k hlt
   have HEVX := Lib.hid hev; have tA := Lib.hid hrow
   clear hev hrow
   have p1 : (0 : Int) ≤ (k : Int) := by omega
   have p2 : (k : Int) < (2 : Int) := by omega
   have HZS := Lib.hid (heap_alloc_new wr (.cells zEn 25))
   go_upto_region 8 with (first
    | (refine wpList_load_mid rfl 25 _ rfl gR (k * 3) rfl _ _ tA.out Tryz.underlying25 rfl (iD _ _ _) ?_)
    | (refine wpList_store_row rfl 25 _ _ rfl wr.heap.size (enA tx (.slice px nx cx) (.slice qx mx dx)) rfl rfl 25 _ HZS.out (aP _ _ _) rfl (cX _ _ _ _ _ _ _) ?_; rw [cA]; generalize hw4 : World.alloc wr _ = w4; have HX4' : Hid (w4.heap[wr.heap.size]? = some (.cells (enA tx (.slice px nx cx) (.slice qx mx dx)) 25 (0, 0))) := (by rw [← hw4]; exact heap_alloc_new _ _); have HBr4 : Hid (Below wr.heap.size wr w4) := (by rw [← hw4]; exact aB _ _); have hs4 : w4.heap.size = wr.heap.size + 1 := (by rw [← hw4]; simp); clear hw4 HZS))
   obtain ⟨gX, hgX⟩ : ∃ gX, gX = wr.heap.size := ⟨_, rfl⟩
   have HX4 : Hid (w4.heap[gX]? = some (.cells (enA tx (.slice px nx cx) (.slice qx mx dx)) 25 (0, 0))) := by rw [hgX]; exact HX4'.out
   rw [← hgX]
   have LG : Hid (EvX w4 tx px nx cx bx qx mx dx lx) := HEVX.out.below HBr4.out
   have HR4 : Hid (EvR w4 gR) := HR.out.below HBr4.out
   have HS4 : Hid (SB3 w (enA t (.slice sp n cap) (.slice sq m cq)) (caA (.slice sp0 n0 cap0) (.slice sc nc cc) kk yy) (sgA x h' n') w4) := HS.out.below HBr4.out
   have hx4 : gX < w4.heap.size := by omega
   clear HX4' hgX hs4 HEVX tA HR HS HBr4
   have HKW : Hid (∀ w', Below w.heap.size w w' → KayIn w' ∧ 1 < w'.heap.size) := fun w' hb => ⟨HK.out.below hb hk0, Nat.lt_of_lt_of_le hk0 hb.size⟩
   obtain ⟨V, hV⟩ : ∃ V, V = jV tx bx (lx.map pg) x h' n' := ⟨_, rfl⟩
   have HVX : Hid (H16 V.x) := by rw [hV]; exact GD HX.out
   have HVL : Hid (V.L.length ≤ 1000) := by show _ ≤ _; rw [hV]; have h1 := DQ (t := tx) (b := bx) (L := lx.map pg) (x := x) (h := h') (n := n'); rw [List.length_map, LG.out.s.len] at h1; have := LG.out.hm; omega
   have HVD : Hid (∀ y ∈ V.L, y.l.length ≤ 1000 ∧ y.q.length ≤ 1000) := by
    rw [hV]
    refine DR fun y hy => ?_
    obtain ⟨z, hz, rfl⟩ := List.mem_map.1 hy
    have h1 := LG.out.lt z hz
    have h2 := LG.out.s.dat z hz
    exact ⟨by rw [show (pg z).l.length = z.n from h2.c.len]; exact h1.1, by rw [show (pg z).q.length = z.m from h2.p.len]; exact h1.2⟩
   have HSR : Hid (∀ w', EvX w' tx px nx cx bx qx mx dx lx → Calls Tryz.prog 19 #[.agg (enA tx (.slice px nx cx) (.slice qx mx dx)), .agg (sgA x h' n')] w' (SgW V w')) := fun w' hh => by
    rw [hV]; exact (xG tx px nx cx bx qx mx dx lx x h' n' w' hh.tl hh.p hh.pn hh.s hh.sn HX.out).mono fun e w'' hh => hh.W
   have HSP : Hid (∀ w', EvX w' tx px nx cx bx qx mx dx lx → KayIn w' → 1 < w'.heap.size → Calls Tryz.prog 18 #[.agg (enA tx (.slice px nx cx) (.slice qx mx dx)), .agg (sgA x h' n')] w' (SgW V w')) := fun w' hh hk hk0 => by
    rw [hV]; exact (nM tx px nx cx bx qx mx dx lx x h' n' w' hh.tl hh.p hh.pn hh.s hh.sn hh.lt HX.out (vW mx) hk hk0).mono fun e w'' hh => hh.W
   clear hV
   obtain ⟨VE, VT, VB, VL, VX, VH, VN⟩ := V
   go_wp2_with (first
    | (refine wpList_load_row rfl 25 _ rfl gX rfl 25 _ (0, 0) _ HX4.out Tryz.underlying25 rfl (aP _ _ _) ?_)
    | (refine wpList_load_row rfl 39 _ rfl (w.heap.size + 2) rfl 39 _ (0, 0) _ HS4.out.s Tryz.underlying39 rfl (aE HX.out) ?_))
   refine (HSP.out w4 LG.out (HKW.out w4 HS4.out.b).1 (HKW.out w4 HS4.out.b).2).mono ?_
   rintro e w5 ⟨x1, y1, z1, x2, y2, z2, l5, rfl, hp5, hs5, hl5, hb⟩
   have HP5 := Lib.hid hp5; have HS5' := Lib.hid hs5; have HL5 := Lib.hid hl5
   have HX5 : Hid (w5.heap[gX]? = some (.cells (enA tx (.slice px nx cx) (.slice qx mx dx)) 25 (0, 0))) := (hb.block _ hx4).trans HX4.out
   have HEV5 : Hid (EvX w5 tx px nx cx bx qx mx dx lx) := LG.out.below hb
   have HR5 : Hid (EvR w5 gR) := HR4.out.below hb
   have HS5 : Hid (SB3 w (enA t (.slice sp n cap) (.slice sq m cq)) (caA (.slice sp0 n0 cap0) (.slice sc nc cc) kk yy) (sgA x h' n') w5) := HS4.out.below hb
   have hx5 : gX < w5.heap.size := by have := hb.size; omega
   clear hb hp5 hs5 hl5 HX4 LG HR4 HS4 HSP HKW hx4
   have HTB := Lib.hid (TwoB.new w5)
   have KW := Lib.hid (HTB.out.setE (enA VT (.slice x1 y1 z1) (.slice x2 y2 z2)))
   go_upto_region 9 with (first
    | (refine wpList_store_row rfl 25 _ _ rfl w5.heap.size (enA VT (.slice x1 y1 z1) (.slice x2 y2 z2)) rfl rfl 25 _ HTB.out.e (aP _ _ _) rfl (cX _ _ _ _ _ _ _) ?_)
    | (refine wpList_store_row rfl 39 _ _ rfl (w5.heap.size + 1) (sgA VX VH VN) rfl rfl 39 _ KW.out.s (aE HVX.out) (by rw [aC aD, aC HVX.out]) (aW _ _ _) ?_; generalize hw6 : World.setRow _ (w5.heap.size + 1) _ = w6; have CI : Hid (TwoB w5 (enA VT (.slice x1 y1 z1) (.slice x2 y2 z2)) (sgA VX VH VN) w6) := (by rw [← hw6]; exact KW.out.setS (sgA VX VH VN)); clear hw6 HTB KW))
   have HP6 : Hid (BSrc w6 w6.heap.size x1 y1 z1 VB) := (HP5.out.below CI.out.b (Nat.le_refl _)).more CI.out.b.size
   have HS6' : Hid (SgsIn w6 w6.heap.size x2 y2 z2 l5) := HS5'.out.up CI.out.b (Nat.le_refl _)
   have HX6 : Hid (w6.heap[gX]? = some (.cells (enA tx (.slice px nx cx) (.slice qx mx dx)) 25 (0, 0))) := (CI.out.b.block _ hx5).trans HX5.out
   have HEV6 : Hid (EvX w6 tx px nx cx bx qx mx dx lx) := HEV5.out.below CI.out.b
   have HR6 : Hid (EvR w6 gR) := HR5.out.below CI.out.b
   have HS6 : Hid (SB3 w (enA t (.slice sp n cap) (.slice sq m cq)) (caA (.slice sp0 n0 cap0) (.slice sc nc cc) kk yy) (sgA x h' n') w6) := HS5.out.below CI.out.b
   have HA6 := Lib.hid CI.out.e; have HG6 := Lib.hid CI.out.s
   have hk6 := CI.out.k
   obtain ⟨ga, hga⟩ : ∃ ga, ga = w5.heap.size := ⟨_, rfl⟩
   rw [← hga] at HA6 HG6 hk6
   rw [← hga]
   have HLA : Hid (ga < w6.heap.size ∧ ga + 1 < w6.heap.size ∧ gX < w6.heap.size) := ⟨by omega, by omega, by omega⟩
   clear HP5 HS5' HX5 HEV5 HR5 HS5 CI hx5 hk6 hga
   go_wp2_with (first
    | (refine wpList_load_row rfl 25 _ rfl gX rfl 25 _ (0, 0) _ HX6.out Tryz.underlying25 rfl (aP _ _ _) ?_)
    | (refine wpList_load_row rfl 39 _ rfl (w.heap.size + 2) rfl 39 _ (0, 0) _ HS6.out.s Tryz.underlying39 rfl (aE HX.out) ?_))
   refine (HSR.out w6 HEV6.out).mono ?_
   rintro e w7 ⟨u1, v1, r1, u2, v2, r2, l7, rfl, hp7, hs7, hl7, hb⟩
   have HP7a : Hid (BSrc w7 w7.heap.size x1 y1 z1 VB) := (HP6.out.below hb (Nat.le_refl _)).more hb.size
   have HS7a : Hid (SgsIn w7 w7.heap.size x2 y2 z2 l5) := HS6'.out.up hb (Nat.le_refl _)
   have HP7 := Lib.hid hp7; have HS7' := Lib.hid hs7; have HL7 := Lib.hid hl7
   have HR7 : Hid (EvR w7 gR) := HR6.out.below hb
   have HS7 : Hid (SB3 w (enA t (.slice sp n cap) (.slice sq m cq)) (caA (.slice sp0 n0 cap0) (.slice sc nc cc) kk yy) (sgA x h' n') w7) := HS6.out.below hb
   have HA7 : Hid (w7.heap[ga]? = some (.cells (enA VT (.slice x1 y1 z1) (.slice x2 y2 z2)) 25 (0, 0))) := (hb.block _ HLA.out.1).trans HA6.out
   have HG7 : Hid (w7.heap[ga + 1]? = some (.cells (sgA VX VH VN) 39 (0, 0))) := (hb.block _ HLA.out.2.1).trans HG6.out
   have hl7 : ga + 1 < w7.heap.size := by have := hb.size; have := HLA.out.2.1; omega
   clear hb hp7 hs7 HP6 HS6' HR6 HS6 HA6 HG6 HX6 HEV6 HSR HLA
   have HTB := Lib.hid (TwoB.new w7)
   have KW := Lib.hid (HTB.out.setE (enA VT (.slice u1 v1 r1) (.slice u2 v2 r2)))
   go_upto_region 10 with (first
    | (refine wpList_store_row rfl 25 _ _ rfl w7.heap.size (enA VT (.slice u1 v1 r1) (.slice u2 v2 r2)) rfl rfl 25 _ HTB.out.e (aP _ _ _) rfl (cX _ _ _ _ _ _ _) ?_)
    | (refine wpList_store_row rfl 39 _ _ rfl (w7.heap.size + 1) (sgA VX VH VN) rfl rfl 39 _ KW.out.s (aE HVX.out) (by rw [aC aD, aC HVX.out]) (aW _ _ _) ?_; generalize hw6 : World.setRow _ (w7.heap.size + 1) _ = w8; have HTw8 : Hid (TwoB w7 (enA VT (.slice u1 v1 r1) (.slice u2 v2 r2)) (sgA VX VH VN) w8) := (by rw [← hw6]; exact KW.out.setS (sgA VX VH VN)); clear hw6 HTB KW))
   have CR := Lib.hid HTw8.out.b
   have HP8a : Hid (BSrc w8 w8.heap.size x1 y1 z1 VB) := (HP7a.out.below CR.out (Nat.le_refl _)).more CR.out.size
   have HS8a : Hid (SgsIn w8 w8.heap.size x2 y2 z2 l5) := HS7a.out.up CR.out (Nat.le_refl _)
   have HP8 : Hid (BSrc w8 w8.heap.size u1 v1 r1 VB) := (HP7.out.below CR.out (Nat.le_refl _)).more CR.out.size
   have HS8b : Hid (SgsIn w8 w8.heap.size u2 v2 r2 l7) := HS7'.out.up CR.out (Nat.le_refl _)
   have HR8 : Hid (EvR w8 gR) := HR7.out.below CR.out
   have HS8 : Hid (SB3 w (enA t (.slice sp n cap) (.slice sq m cq)) (caA (.slice sp0 n0 cap0) (.slice sc nc cc) kk yy) (sgA x h' n') w8) := HS7.out.below CR.out
   have HA8 := Lib.hid (aT (L := (enL VT (.slice x1 y1 z1) (.slice x2 y2 z2))) ((CR.out.block _ (Nat.lt_of_succ_lt hl7)).trans HA7.out))
   have HG8 := Lib.hid (aT ((CR.out.block _ hl7).trans HG7.out))
   have HC8 := Lib.hid (aT (L := (enL VT (.slice u1 v1 r1) (.slice u2 v2 r2))) HTw8.out.e); have HH8 := Lib.hid (aT HTw8.out.s)
   have HIS := Lib.hid (eP (h := VH) (n := VN) HVX.out)
   obtain ⟨gb, hgb⟩ : ∃ gb, gb = w7.heap.size := ⟨_, rfl⟩
   rw [← hgb] at HC8 HH8
   rw [← hgb]
   clear HP7a HS7a HP7 HS7' HR7 HS7 HA7 HG7 CR HTw8 hl7 hgb
   have qE : (VE == VE) = true := by simp
   have HSM := Lib.hid (xN VT x1 y1 z1 VB x2 y2 z2 l5 u1 v1 r1 u2 v2 r2 l7 w8 HP8a.out HP8.out HS8a.out HS8b.out (HL5.out.trans HL7.out.symm) (fun y hy => HVD.out y (by rw [← show l5.map pg = VL from HL5.out]; exact hy)) (by rw [← HS8a.out.len]; have h1 := congrArg List.length (show l5.map pg = VL from HL5.out); rw [List.length_map] at h1; rw [h1]; exact HVL.out))
   go_wp2_with (first
    | (refine bK (by rfl) 39 _ rfl (ga + 1) 0 rfl _ _ HG8.out Tryz.underlying39 rfl HIS.out ?_)
    | (refine bK (by rfl) 39 _ rfl (gb + 1) 0 rfl _ _ HH8.out Tryz.underlying39 rfl HIS.out ?_)
    | (refine tI (by rfl) 39 _ _ rfl (sgA VX VH VN) (by kernel_rfl) (eqSg VX VH VN HVX.out _) rfl rfl ?_)
    | (refine bK (by rfl)  25 _ rfl ga 0 rfl _ _ HA8.out Tryz.underlying25 rfl (iD _ _ _) ?_)
    | (refine bK (by rfl)  25 _ rfl gb 0 rfl _ _ HC8.out Tryz.underlying25 rfl (iD _ _ _) ?_))
   refine HSM.out.mono ?_
   rintro e w9 ⟨rfl, hb⟩
   have HR9 : Hid (EvR w9 gR) := HR8.out.below hb
   have HS9 : Hid (SB3 w (enA t (.slice sp n cap) (.slice sq m cq)) (caA (.slice sp0 n0 cap0) (.slice sc nc cc) kk yy) (sgA x h' n') w9) := HS8.out.below hb
   clear hb
   go_wp2_with fail
   go_roundw
   case rel => exact ⟨k + 1, by go_num, by omega, HR9.out, HS9.out⟩
   case measure => simp [intOf]; omega
  ·obtain rfl : k = 2 := by omega
   have hd : decide (((2 : Nat) : Int) < 2) = false := by simp
   have hkw : 1 < wr.heap.size := Nat.lt_of_lt_of_le hk0 HS.out.b.size
   have HA := Lib.hid (uV wr (HK.out.below HS.out.b hk0) hkw)
   go_wp2_with fail
   refine HA.out.mono ?_
   rintro e w9 ⟨rfl, hb⟩
   have HB9 : Hid (Below w.heap.size w w9) := HS.out.b.trans (hb.mono HS.out.b.size)
   clear hb HA
   go_wp2_with fail
   go_ret
   exact ⟨rfl, HB9.out⟩
end Go.Proofs.YtjeiiabpdoelpaaGreatDoor
