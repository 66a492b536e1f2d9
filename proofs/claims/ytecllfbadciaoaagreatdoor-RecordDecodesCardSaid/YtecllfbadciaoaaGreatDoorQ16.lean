/-
  The walk of layer 12's light: what it says of a record that it lets pass (condition: the record stands in memory, of any size that memory has).
-/
import Derived.Test.YtecllfbadciaoaaGreatDoorZip
import Derived.Test.YtecllfbadciaoaaGreatDoorRecK
set_option maxRecDepth 100000
set_option maxHeartbeats 8000000
namespace Go.Proofs.YtecllfbadciaoaaGreatDoor
open Go.RowKit
structure RcAt (x : Rc) (w : World) : Prop where
 c : StrsIn w w.heap.size x.c1 x.cn x.c
 v : VrsIn w w.heap.size x.v1 x.vn x.vc x.v
 m : EnsIn w w.heap.size x.m1 x.mn x.mc x.m
 p : EnsIn w w.heap.size x.p1 x.pn x.pc x.p
 b : x.run.size ≤ maxLen ∧ x.scp.size ≤ maxLen ∧ x.stp.size ≤ maxLen ∧ x.cn ≤ maxLen ∧ x.vn ≤ maxLen ∧ x.mn ≤ maxLen ∧ x.pn ≤ maxLen
 s : (∀ y ∈ x.c, y.size ≤ maxLen) ∧ (∀ y ∈ x.v, y.n.size ≤ maxLen ∧ y.v.size ≤ maxLen)
 t : -9223372036854775808 ≤ x.t ∧ x.t ≤ 9223372036854775807
theorem RcAt.below {x : Rc} {w w' : World} (h : RcAt x w) (hb : Below w.heap.size w w') : RcAt x w' := ⟨h.c.upR hb, h.v.up hb, h.m.upR hb, h.p.upR hb, h.b, h.s, h.t⟩
theorem tb_noStr {w : World} {tb k o : Nat} {s : ByteArray} (h : Tp w tb k) : w.cell? ⟨tb, o, none⟩ ≠ some (.string s) := by
 obtain ⟨sp, n, cap, l, j, h, _⟩ := h
 rw [cell_of_row w tb o _ _ _ h.row]
 match o with
 | 0 => simp
 | 1 => simp
 | o + 2 => simp
theorem Turn.rangeQ {tb : Nat} {w w' : World} {b o : Nat} {L : List Value} (hu : Turn tb w w') (hb : b < w.heap.size) (hne : b ≠ tb) (h : w.rangeAt b o L) : w'.rangeAt b o L := fun j v hv => (hu.cell hb hne).trans (h j v hv)
theorem RcIn.turnQ {x : Rc} {w w' : World} {tb k : Nat} (h : RcIn x w) (ht : Tp w tb k) (hu : Turn tb w w') : RcIn x w' := by
 refine ⟨⟨h.c.len, fun hn => ?_⟩, ⟨h.v.len, fun hn => ?_⟩, ⟨h.m.len, h.m.ok, fun hn => ?_⟩, ⟨h.p.len, h.p.ok, fun hn => ?_⟩, h.b, h.s, h.t⟩
 ·obtain ⟨b, off, e, hlt, hc⟩ := h.c.cells hn
  have hl := h.c.len
  have hne : b ≠ tb := by
   rintro rfl
   exact tb_noStr ht (hc 0 (by omega))
  exact ⟨b, off, e, Nat.lt_of_lt_of_le hlt hu.size, fun j hj => (hu.cell hlt hne).trans (hc j hj)⟩
 ·obtain ⟨b, off, e, hlt, hcap, hc⟩ := h.v.cells hn
  have hl := h.v.len
  have hne : b ≠ tb := by
   rintro rfl
   exact tb_noStr ht (hc 0 _ (List.getElem?_eq_getElem (by omega)) 0 _ rfl)
  exact ⟨b, off, e, Nat.lt_of_lt_of_le hlt hu.size, hcap, fun i y hy => hu.rangeQ hlt hne (hc i y hy)⟩
 ·obtain ⟨b, off, e, hlt, hcap, hc⟩ := h.m.cells hn
  have hl := h.m.len
  have hne : b ≠ tb := by
   rintro rfl
   exact tb_noStr ht (hc 0 _ (List.getElem?_eq_getElem (by omega)) 0 _ rfl)
  exact ⟨b, off, e, Nat.lt_of_lt_of_le hlt hu.size, hcap, fun i y hy => hu.rangeQ hlt hne (hc i y hy)⟩
 ·obtain ⟨b, off, e, hlt, hcap, hc⟩ := h.p.cells hn
  have hl := h.p.len
  have hne : b ≠ tb := by
   rintro rfl
   exact tb_noStr ht (hc 0 _ (List.getElem?_eq_getElem (by omega)) 0 _ rfl)
  exact ⟨b, off, e, Nat.lt_of_lt_of_le hlt hu.size, hcap, fun i y hy => hu.rangeQ hlt hne (hc i y hy)⟩
structure OdT (tb go k : Nat) (wb : World) (y : Rc) (w : World) : Prop where
 row : w.heap[go]? = some (.cells y.L.toArray 31 (0, 0))
 i : RcIn y wb
 t0 : ∃ k0, Tp wb tb k0
 tp : Tp w tb k
 tu : Turn tb wb w
 lt : wb.heap.size ≤ go ∧ tb < wb.heap.size
theorem OdT.draw {tb go k k' : Nat} {wb : World} {y : Rc} {w w' : World} (h : OdT tb go k wb y w) (hu : Turn tb w w') (ht : Tp w' tb k') : OdT tb go k' wb y w' :=
 ⟨(hu.block go (Array.getElem?_eq_some_iff.1 h.row).1 (by have := h.lt; omega)).trans h.row, h.i, h.t0, ht, h.tu.trans hu, h.lt⟩
theorem OdT.new {tb go k : Nat} {wb : World} {y : Rc} {w : World} (h : OdT tb go k wb y w) (o : Obj) : OdT tb go k wb y (w.alloc o) :=
 have hb : Below w.heap.size w (w.alloc o) := (Below.refl _ _).alloc (Nat.le_refl _) _
 h.draw (Turn.of hb) (h.tp.of hb)
theorem OdT.below {tb go k : Nat} {wb : World} {y : Rc} {w w' : World} (h : OdT tb go k wb y w) (hb : Below w.heap.size w w') : OdT tb go k wb y w' := h.draw (Turn.of hb) (h.tp.of hb)
structure OdE (tb go : Nat) (wb : World) (y : Rc) (w : World) : Prop where
 row : w.heap[go]? = some (.cells y.L.toArray 31 (0, 0))
 i : RcIn y w
 tu : Turn tb wb w
theorem OdT.cell {tb go k j : Nat} {v : Value} {wb : World} {y : Rc} {w : World} (h : OdT tb go k wb y w) (hj : y.L[j]? = some v) : w.cell? ⟨go, j, none⟩ = some v ∧ w.frozen? ⟨go, j, none⟩ = false := ⟨heap_cellR h.row hj, frozen_of_row _ _ _ _ _ h.row⟩
theorem OdT.put {tb go k : Nat} {wb : World} {y y' : Rc} {w : World} (h : OdT tb go k wb y w) (j : Nat) (u : Value) (hr : y.L.toArray.setIfInBounds j u = y'.L.toArray) (hi : RcIn y (w.setCell ⟨go, j, none⟩ u) → RcIn y' (w.setCell ⟨go, j, none⟩ u)) : OdE tb go wb y' (w.setCell ⟨go, j, none⟩ u) := by
 have hb2 : Below wb.heap.size w (w.setCell ⟨go, j, none⟩ u) := (Below.refl wb.heap.size w).setCell (p := ⟨go, j, none⟩) h.lt.1 _
 have htu := h.tu.below2 hb2
 obtain ⟨k0, h0⟩ := h.t0
 exact ⟨by rw [heap_setCell_same _ _ _ _ _ _ h.row, hr], hi (h.i.turnQ h0 htu), htu⟩
def drL (x : Rc) (m v : Bool) : List Value := x.L ++ [.bool m, .bool v]
theorem infoDrA (x : Rc) (m v : Bool) : (Tryz.prog.info? 70).map (·.size) = some (drL x m v).toArray.size := by kernel_rfl
theorem oneDr (x : Rc) (m v : Bool) : (drL x m v).toArray.all (·.oneCell') = true := by simp [drL, Rc.L, Value.oneCell']
structure DrB (gd B : Nat) (x : Rc) (m v : Bool) (w : World) : Prop where
 row : w.heap[gd]? = some (.cells (drL x m v).toArray 70 (0, 0))
 lo : B ≤ gd
 c : StrsIn w B x.c1 x.cn x.c
 v : w.ownsRow B 61 2 (.slice x.v1 x.vn x.vc) x.vn (x.v.flatMap vrL) ∧ x.v.length = x.vn
 m : OwnE w B (.slice x.m1 x.mn x.mc) x.m ∧ x.m.length = x.mn
 p : OwnE w B (.slice x.p1 x.pn x.pc) x.p ∧ x.p.length = x.pn
theorem DrB.lt {gd B : Nat} {x : Rc} {m v : Bool} {w : World} (h : DrB gd B x m v w) : gd < w.heap.size := (Array.getElem?_eq_some_iff.1 h.row).1
theorem DrB.cell {gd B j : Nat} {x : Rc} {m v : Bool} {w : World} {u : Value} (h : DrB gd B x m v w) (hj : (drL x m v)[j]? = some u) : w.cell? ⟨gd, j, none⟩ = some u ∧ w.frozen? ⟨gd, j, none⟩ = false := ⟨heap_cellR h.row hj, frozen_of_row _ _ _ _ _ h.row⟩
theorem DrB.below {gd B : Nat} {x : Rc} {m v : Bool} {w w' : World} (h : DrB gd B x m v w) (hb : Below w.heap.size w w') : DrB gd B x m v w' :=
 ⟨(hb.block gd h.lt).trans h.row, h.lo, h.c.below hb (Nat.le_of_lt (Nat.lt_of_le_of_lt h.lo h.lt)), ⟨own_keptQ h.v.1 fun g cur _ hc => hb.block g (Array.getElem?_eq_some_iff.1 hc).1, h.v.2⟩,
  ⟨⟨own_keptQ h.m.1.1 fun g cur _ hc => hb.block g (Array.getElem?_eq_some_iff.1 hc).1, h.m.1.2⟩, h.m.2⟩, ⟨⟨own_keptQ h.p.1.1 fun g cur _ hc => hb.block g (Array.getElem?_eq_some_iff.1 hc).1, h.p.1.2⟩, h.p.2⟩⟩
theorem own_setD {w : World} {gd j B e size n : Nat} {u v : Value} {xs : List Value} {cs : Array Value} (h : w.ownsRow B e size v n xs) (hg : w.heap[gd]? = some (.cells cs 70 (0, 0))) (he : e ≠ 70) : (w.setCell ⟨gd, j, none⟩ u).ownsRow B e size v n xs :=
 own_keptQ h fun g cur _ hc => heap_setCell_other _ _ _ _ (by
  rintro rfl
  rw [hg] at hc
  injection hc with hc
  injection hc with _ hc _
  exact he hc.symm)
theorem DrB.set {gd B : Nat} {x : Rc} {m v : Bool} {w : World} (h : DrB gd B x m v w) (j : Nat) (u : Value) (x' : Rc) (m' v' : Bool) (hr : (drL x m v).toArray.setIfInBounds j u = (drL x' m' v').toArray)
 (hc : StrsIn w B x'.c1 x'.cn x'.c) (hv : w.ownsRow B 61 2 (.slice x'.v1 x'.vn x'.vc) x'.vn (x'.v.flatMap vrL) ∧ x'.v.length = x'.vn) (hm : OwnE w B (.slice x'.m1 x'.mn x'.mc) x'.m ∧ x'.m.length = x'.mn) (hp : OwnE w B (.slice x'.p1 x'.pn x'.pc) x'.p ∧ x'.p.length = x'.pn) :
 DrB gd B x' m' v' (w.setCell ⟨gd, j, none⟩ u) :=
 ⟨by rw [heap_setCell_same _ _ _ _ _ _ h.row, hr], h.lo, hc.below ((Below.refl B w).setCell (p := ⟨gd, j, none⟩) h.lo _) (Nat.le_refl _), ⟨own_setD hv.1 h.row (by decide), hv.2⟩, ⟨⟨own_setD hm.1.1 h.row (by decide), hm.1.2⟩, hm.2⟩, ⟨⟨own_setD hp.1.1 h.row (by decide), hp.1.2⟩, hp.2⟩⟩
theorem require_any (gd B : Nat) (x : Rc) (m v f : Bool) (w : World) (h : DrB gd B x m v w) :
 Calls Tryz.prog 67 #[.pointer (some ⟨gd, 0, none⟩), .bool f] w fun e w' => e = .returned (.bool f) ∧ DrB gd B x (m || !f) v w' ∧ Turn gd w w' := by
 have HD := zh h
 have HD2 := zh (h.set 8 (.bool (m || !f)) x (m || !f) v rfl h.c h.v h.m h.p)
 have HT2 : Hid (Turn gd w (w.setCell ⟨gd, 8, none⟩ (.bool (m || !f)))) := Turn.tick _ _ _ _
 clear h
 have cS := (HD.out.cell (j := 8) rfl).1
 have fS := (HD.out.cell (j := 8) rfl).2
 go_enter Tryz.func67, Tryz.ntmps67
 cases m <;> cases f
 all_goals
  go_wp2_with fail
  go_ret
  exact ⟨rfl, HD2.out, HT2.out⟩
def okH (q : List ByteArray) : Bool := decide (q.length = 5) && pnk (q.getD 4 ByteArray.empty).data.toList
def hdR (x : Rc) (q : List ByteArray) : Rc := { x with run := q.getD 1 ByteArray.empty, scp := q.getD 2 ByteArray.empty, stp := q.getD 3 ByteArray.empty, t := pnv (q.getD 4 ByteArray.empty).data.toList }
theorem readHead_any (gd B : Nat) (x : Rc) (m v : Bool) (sp : Option Addr) (n cap : Nat) (ls : List Ln) (w : World) (h : DrB gd B x m v w) (hl : LinesIn w B sp n ls) (hsz : ∀ q ∈ ls, ∀ s ∈ q.l, s.size ≤ 100000) :
 Calls Tryz.prog 63 #[.pointer (some ⟨gd, 0, none⟩), .slice sp n cap] w fun e w' => e = .returned (.tuple #[]) ∧ Turn gd w w' ∧ ∃ x' m', DrB gd B x' m' v w' ∧ (x'.vn = x.vn ∧ x'.c1 = x.c1) ∧
  ((m' = true ∧ ¬ (∃ q, ls = [q] ∧ okH q.l = true ∧ m = false)) ∨ (m' = m ∧ ∃ q, ls = [q] ∧ okH q.l = true ∧ x' = hdR x q.l)) := by
 have HD := zh h; have HL := zh hl; have HSZ := zh hsz
 clear h hl hsz
 have HRQ := zh (fun f => require_any gd B x m v f w HD.out)
 by_cases hn : n = 1
 case neg =>
  have hd : decide ((n : Int) = 1) = false := by simp; omega
  go_enter Tryz.func63, Tryz.ntmps63
  go_wp2_with fail
  refine (HRQ.out false).mono ?_
  rintro e w1 ⟨rfl, hd1, ht1⟩
  have HD1 := zh hd1; have HT1 := zh ht1
  clear hd1 ht1 HRQ
  go_wp2_with fail
  refine bodyPost_ret (results_none rfl _ _ _) rfl ?_
  refine ⟨rfl, HT1.out, x, _, HD1.out, ⟨rfl, rfl⟩, .inl ⟨by simp, ?_⟩⟩
  rintro ⟨q, rfl, _⟩
  exact hn HL.out.len.symm
 subst hn
 obtain ⟨b, off, rfl, hb, hcell⟩ := HL.out.cells (by omega)
 obtain ⟨qs, qn, qc, ql, rfl⟩ : ∃ qs qn qc ql, ls = [(⟨qs, qn, qc, ql⟩ : Ln)] := by
  have := HL.out.len
  match ls, this with
  | [r], _ => exact ⟨r.sp, r.n, r.cap, r.l, rfl⟩
 have cq := hcell 0 (by simp)
 rw [Nat.add_zero] at cq
 simp only [List.getElem_cons_zero] at cq
 have HST : Hid (StrsIn w B qs qn ql) := HL.out.each _ (List.mem_singleton.2 rfl)
 have HSQ : Hid (∀ s ∈ ql, s.size ≤ 100000) := HSZ.out _ (List.mem_singleton.2 rfl)
 replace cq : w.cell? ⟨b, off, none⟩ = some (.slice qs qn qc) := cq
 clear hcell HL HSZ
 by_cases h5 : qn = 5
 case neg =>
  have hd : decide ((qn : Int) = 5) = false := by simp; omega
  have hd2 : ((qn : Int) == 5) = false := by rw [beq_eq_false_iff_ne]; omega
  go_enter Tryz.func63, Tryz.ntmps63
  go_wp2_with fail
  refine (HRQ.out false).mono ?_
  rintro e w1 ⟨rfl, hd1, ht1⟩
  have HD1 := zh hd1; have HT1 := zh ht1
  clear hd1 ht1 HRQ
  go_wp2_with fail
  refine bodyPost_ret (results_none rfl _ _ _) rfl ?_
  refine ⟨rfl, HT1.out, x, _, HD1.out, ⟨rfl, rfl⟩, .inl ⟨by simp, ?_⟩⟩
  rintro ⟨q2, e, hk, _⟩
  injection e with e _
  subst e
  have := HST.out.len
  unfold okH at hk
  simp at hk
  omega
 obtain ⟨t, a, b', c, d, hq⟩ : ∃ t a b' c d, ql = [t, a, b', c, d] := by
  have := HST.out.len
  rw [h5] at this
  match hq : ql, this with
  | [t, a, b', c, d], _ => exact ⟨t, a, b', c, d, rfl⟩
 obtain ⟨b2, off2, hs2, hb2, hcell2⟩ := HST.out.cells (by omega)
 rw [hq] at hcell2
 have HWD : Hid (∀ w', Below B w w' → w'.cell? ⟨b2, off2 + 1, none⟩ = some (.string a) ∧ w'.cell? ⟨b2, off2 + 2, none⟩ = some (.string b') ∧ w'.cell? ⟨b2, off2 + 3, none⟩ = some (.string c) ∧ w'.cell? ⟨b2, off2 + 4, none⟩ = some (.string d)) := fun w' hb =>
  ⟨(hb.cell (p := ⟨b2, off2 + 1, none⟩) hb2).trans (hcell2 1 (by simp)), (hb.cell (p := ⟨b2, off2 + 2, none⟩) hb2).trans (hcell2 2 (by simp)), (hb.cell (p := ⟨b2, off2 + 3, none⟩) hb2).trans (hcell2 3 (by simp)), (hb.cell (p := ⟨b2, off2 + 4, none⟩) hb2).trans (hcell2 4 (by simp))⟩
 have HDS : Hid (d.size ≤ 100000) := HSQ.out d (by rw [hq]; simp)
 have HCQ : Hid (∀ w', Below B w w' → w'.cell? ⟨b, off, none⟩ = some (.slice qs qn qc)) := fun w' hbb => (hbb.cell (p := ⟨b, off, none⟩) hb).trans cq
 clear hcell2 HST HSQ
 rw [hs2, h5] at cq
 rw [hs2, h5] at HCQ
 have HQ : Hid (ql = [t, a, b', c, d]) := hq
 clear hq hb hb2 hs2 h5
 go_enter Tryz.func63, Tryz.ntmps63
 go_wp2_with fail
 refine (HRQ.out true).mono ?_
 rintro e w1 ⟨rfl, hd1, ht1⟩
 have hmt : (m || !true) = m := by simp
 rw [hmt] at hd1
 have HD1 := zh hd1; have HT1 := zh ht1
 have HB1 : Hid (Below B w w1) := ht1.below HD.out.lo HD.out.lt
 have cq1 := HCQ.out w1 HB1.out
 have c4 := (HWD.out w1 HB1.out).2.2.2
 clear hd1 ht1 HRQ hmt cq
 have HPN := zh (ParseNumber_any d w1 (by have := HDS.out; omega))
 go_wp2_with fail
 refine HPN.out.mono ?_
 rintro e w1' ⟨rfl, rfl⟩
 have HRQ2 := zh (fun f => require_any gd B x m v f w1 HD1.out)
 obtain ⟨f, hf⟩ : ∃ f, f = pnk d.data.toList := ⟨_, rfl⟩
 rw [← hf]
 have HF := zh hf
 clear hf HPN
 go_wp2_with fail
 refine (HRQ2.out f).mono ?_
 rintro e w4 ⟨rfl, hd4, ht4⟩
 obtain ⟨m2, hm2⟩ : ∃ m2, m2 = (m || !f) := ⟨_, rfl⟩
 rw [← hm2] at hd4
 have HM2 := zh hm2
 clear hm2
 have HB4 : Hid (Below B w w4) := HB1.out.trans (ht4.below HD1.out.lo HD1.out.lt)
 have HT4 : Hid (Turn gd w w4) := HT1.out.trans ht4
 have HW4 : Hid (∀ w', Below B w4 w' → w'.cell? ⟨b2, off2 + 1, none⟩ = some (.string a) ∧ w'.cell? ⟨b2, off2 + 2, none⟩ = some (.string b') ∧ w'.cell? ⟨b2, off2 + 3, none⟩ = some (.string c) ∧ w'.cell? ⟨b2, off2 + 4, none⟩ = some (.string d)) := fun w' hb => HWD.out w' (HB4.out.trans hb)
 clear HD HD1 HT1 HB1 HWD HRQ2 cq1 c4 HCQ ht4 HDS HB4
 have HD := zh hd4
 have HWD := zh HW4.out
 clear hd4 HW4
 go_upto_region 4 with fail
 refine wp_region_held_drew (S := fun w' => Below B w4 w') (by kernel_rfl) (Below.refl B w4).drew (fun hHeld => ?_)
 have HD0 : Hid (DrB gd B x m2 v w4.drew) := HD.out.below (Below.refl w4.heap.size w4).drew
 have HBd : Hid (Below B w4 w4.drew) := (Below.refl B w4).drew
 have HTd : Hid (Turn gd w4 w4.drew) := Turn.of (Below.refl w4.heap.size w4).drew
 clear HD
 generalize World.drew w4 = wd at *
 refine zv 0 rfl ?_
 refine zv 1 rfl ?_
 refine zv 2 rfl ?_
 refine zv 3 rfl ?_
 refine zv 4 rfl ?_
 refine zv 5 rfl ?_
 refine zx 6 rfl (v := ?_) ?_ ?_; rotate_left
 ·intro w' hSw; have ce := (HWD.out w' hSw).1; go_simp; try with_reducible rfl
 refine zv 7 rfl ?_
 refine zv 8 rfl ?_
 refine zx 9 rfl (v := ?_) ?_ ?_; rotate_left
 ·intro w' hSw; have ce := (HWD.out w' hSw).2.1; go_simp; try with_reducible rfl
 refine zv 10 rfl ?_
 refine zv 11 rfl ?_
 refine zx 12 rfl (v := ?_) ?_ ?_; rotate_left
 ·intro w' hSw; have ce := (HWD.out w' hSw).2.2.1; go_simp; try with_reducible rfl
 refine zv 13 rfl ?_
 refine zv 14 rfl ?_
 refine zv 15 rfl ?_
 refine zv 16 rfl ?_
 refine zr 17 rfl (fun K hK => ?_)
 rw [if_pos (by rfl)]
 have cS := (HD0.out.cell (j := 0) rfl).1
 have fS := (HD0.out.cell (j := 0) rfl).2
 have HD1 := zh (HD0.out.set 0 (.string a) ({ x with run := a }) m2 v rfl HD0.out.c HD0.out.v HD0.out.m HD0.out.p)
 have HTS' : Hid (Turn gd wd (World.setCell wd ⟨gd, 0, none⟩ (.string a))) := (Turn.refl gd wd).trans (Turn.tick _ _ _ _)
 have HTS := HTS'
 clear HTS'
 have HB1 : Hid (Below B w4 (World.setCell wd ⟨gd, 0, none⟩ (.string a))) := (HBd.out).setCell (p := ⟨gd, 0, none⟩) HD0.out.lo _
 go_simp
 clear cS fS HD0
 generalize World.setCell wd ⟨gd, 0, none⟩ _ = s1 at *
 refine hK.out _ _ HB1.out fun _ => ?_; clear hK K
 try simp only [Act.put, zuA, zuB, zuC, zuD, zuY, zuF]
 refine zv 18 rfl ?_
 refine zv 19 rfl ?_
 refine zv 20 rfl ?_
 refine zr 21 rfl (fun K hK => ?_)
 rw [if_pos (by rfl)]
 have cS := (HD1.out.cell (j := 1) rfl).1
 have fS := (HD1.out.cell (j := 1) rfl).2
 have HD2 := zh (HD1.out.set 1 (.string b') ({ x with run := a, scp := b' }) m2 v rfl HD1.out.c HD1.out.v HD1.out.m HD1.out.p)
 have HTS' : Hid (Turn gd wd (World.setCell s1 ⟨gd, 1, none⟩ (.string b'))) := (HTS.out).trans (Turn.tick _ _ _ _)
 clear HTS
 have HTS := HTS'
 clear HTS'
 have HB2 : Hid (Below B w4 (World.setCell s1 ⟨gd, 1, none⟩ (.string b'))) := (HB1.out).setCell (p := ⟨gd, 1, none⟩) HD1.out.lo _
 go_simp
 clear cS fS HD1
 generalize World.setCell s1 ⟨gd, 1, none⟩ _ = s2 at *
 refine hK.out _ _ HB2.out fun _ => ?_; clear hK K
 try simp only [Act.put, zuA, zuB, zuC, zuD, zuY, zuF]
 refine zv 22 rfl ?_
 refine zv 23 rfl ?_
 refine zv 24 rfl ?_
 refine zr 25 rfl (fun K hK => ?_)
 rw [if_pos (by rfl)]
 have cS := (HD2.out.cell (j := 2) rfl).1
 have fS := (HD2.out.cell (j := 2) rfl).2
 have HD3 := zh (HD2.out.set 2 (.string c) ({ x with run := a, scp := b', stp := c }) m2 v rfl HD2.out.c HD2.out.v HD2.out.m HD2.out.p)
 have HTS' : Hid (Turn gd wd (World.setCell s2 ⟨gd, 2, none⟩ (.string c))) := (HTS.out).trans (Turn.tick _ _ _ _)
 clear HTS
 have HTS := HTS'
 clear HTS'
 have HB3 : Hid (Below B w4 (World.setCell s2 ⟨gd, 2, none⟩ (.string c))) := (HB2.out).setCell (p := ⟨gd, 2, none⟩) HD2.out.lo _
 go_simp
 clear cS fS HD2
 generalize World.setCell s2 ⟨gd, 2, none⟩ _ = s3 at *
 refine hK.out _ _ HB3.out fun _ => ?_; clear hK K
 try simp only [Act.put, zuA, zuB, zuC, zuD, zuY, zuF]
 refine zv 26 rfl ?_
 refine zv 27 rfl ?_
 refine zv 28 rfl ?_
 refine zr 29 rfl (fun K hK => ?_)
 rw [if_pos (by rfl)]
 have cS := (HD3.out.cell (j := 3) rfl).1
 have fS := (HD3.out.cell (j := 3) rfl).2
 have HD4 := zh (HD3.out.set 3 (.int .i64 (pnv d.data.toList)) ({ x with run := a, scp := b', stp := c, t := pnv d.data.toList }) m2 v rfl HD3.out.c HD3.out.v HD3.out.m HD3.out.p)
 have HTS' : Hid (Turn gd wd (World.setCell s3 ⟨gd, 3, none⟩ (.int .i64 (pnv d.data.toList)))) := (HTS.out).trans (Turn.tick _ _ _ _)
 clear HTS
 have HTS := HTS'
 clear HTS'
 have HB4 : Hid (Below B w4 (World.setCell s3 ⟨gd, 3, none⟩ (.int .i64 (pnv d.data.toList)))) := (HB3.out).setCell (p := ⟨gd, 3, none⟩) HD3.out.lo _
 go_simp
 clear cS fS HD3
 generalize World.setCell s3 ⟨gd, 3, none⟩ _ = s4 at *
 refine hK.out _ _ HB4.out fun _ => ?_; clear hK K
 try simp only [Act.put, zuA, zuB, zuC, zuD, zuY, zuF]
 refine zd ?_ _
 have HTE : Hid (Turn gd w s4) := HT4.out.trans (HTd.out.trans HTS.out)
 go_wp2_with fail
 go_end0
 have hx : hdR x ql = { x with run := a, scp := b', stp := c, t := pnv d.data.toList } := by unfold hdR; rw [HQ.out]; rfl
 refine ⟨rfl, HTE.out, _, m2, HD4.out, ⟨rfl, rfl⟩, ?_⟩
 have hok : okH ql = f := by unfold okH; rw [HQ.out, HF.out]; simp
 cases hfv : f with
 | true =>
   right
   exact ⟨by rw [HM2.out, hfv]; simp, _, rfl, by show okH ql = true; rw [hok, hfv], hx.symm⟩
 | false =>
   left
   refine ⟨by rw [HM2.out, hfv]; simp, ?_⟩
   rintro ⟨q2, e, hk, _⟩
   injection e with e _
   subst e
   have hk : okH ql = true := hk
   rw [hok, hfv] at hk; cases hk
theorem own_baseG {w : World} {base e size : Nat} {v : Value} {n : Nat} {xs : List Value} (h : w.ownsRow base e size v n xs) : ∀ k, v.ownBlock = some k → base ≤ k := by
 intro k hk
 obtain ⟨_, ⟨rfl, _⟩ | ⟨g, cap, _, rfl, hb, _⟩⟩ := h
 ·cases hk
 ·injection hk with hk; subst hk; exact hb
theorem own_belowG {w w' : World} {base e size : Nat} {v : Value} {n : Nat} {xs : List Value} (h : w.ownsRow base e size v n xs) (hb : Below w.heap.size w w') : w'.ownsRow base e size v n xs := by
 obtain ⟨hl, h1 | ⟨g, cap, cur, rfl, hbg, hg, rest⟩⟩ := h
 ·exact ⟨hl, .inl h1⟩
 ·exact ⟨hl, .inr ⟨g, cap, cur, rfl, hbg, (hb.block g (Array.getElem?_eq_some_iff.1 hg).1).trans hg, rest⟩⟩
theorem flat_atG {α : Type} (f : α → List Value) (sz : Nat) : ∀ (l : List α), (∀ x ∈ l, (f x).length = sz) → ∀ i x, l[i]? = some x → ∀ j v, (f x)[j]? = some v → (l.flatMap f)[i * sz + j]? = some v
 | [], _, i, x, hi, _, _, _ => by simp at hi
 | y :: l, h, 0, x, hi, j, v, hv => by
   have e : y = x := by simpa using hi
   subst e
   have hj := (List.getElem?_eq_some_iff.1 hv).1
   rw [List.flatMap_cons, Nat.zero_mul, Nat.zero_add, List.getElem?_append_left hj, hv]
 | y :: l, h, i + 1, x, hi, j, v, hv => by
   have hy := h y (by simp)
   rw [List.flatMap_cons, List.getElem?_append_right (by rw [hy, Nat.add_mul]; omega), hy, show (i + 1) * sz + j - sz = i * sz + j by rw [Nat.add_mul]; omega]
   exact flat_atG f sz l (fun z hz => h z (by simp [hz])) i x (by simpa using hi) j v hv
theorem own_rangeG {α : Type} {f : α → List Value} {sz : Nat} {w : World} {base e : Nat} {g n cap : Nat} {l : List α} (h : w.ownsRow base e sz (.slice (some ⟨g, 0, none⟩) n cap) l.length (l.flatMap f)) (hs : ∀ x ∈ l, (f x).length = sz) (hn : l.length = n) :
 g < w.heap.size ∧ n ≤ cap ∧ ∀ i x, l[i]? = some x → w.rangeAt g (0 + i * sz) (f x) := by
 obtain ⟨_, ⟨h1, _⟩ | ⟨g', cap', cur, h1, _, hg, hle, _, hsz, htk⟩⟩ := h
 ·cases h1
 ·injection h1 with h1 h2 h3
  injection h1 with h1; injection h1 with h1
  subst h1; subst h3
  refine ⟨(Array.getElem?_eq_some_iff.1 hg).1, by omega, fun i x hi j v hv => ?_⟩
  show w.cell? ⟨g, 0 + i * sz + j, none⟩ = some v
  rw [cell_of_row w g _ cur e _ hg, Nat.zero_add]
  have h4 := flat_atG f sz l hs i x hi j v hv
  rw [← htk, List.getElem?_take] at h4
  split at h4
  ·simpa using h4
  ·cases h4
structure RcsIn (w : World) (sp : Option Addr) (n cap : Nat) (l : List Rc) : Prop where
 len : l.length = n
 recs : ∀ x ∈ l, RcIn x w
 cells : 0 < n → ∃ b off, sp = some ⟨b, off, none⟩ ∧ b < w.heap.size ∧ n ≤ cap ∧ ∀ i x, l[i]? = some x → w.rangeAt b (off + i * 8) x.L
theorem RcsIn.up {w w' : World} {sp : Option Addr} {n cap : Nat} {l : List Rc} (h : RcsIn w sp n cap l) (hb : Below w.heap.size w w') : RcsIn w' sp n cap l :=
 ⟨h.len, fun x hx => (h.recs x hx).below hb, fun hn => by
  obtain ⟨b, off, e, hlt, hc, hr⟩ := h.cells hn
  exact ⟨b, off, e, Nat.lt_of_lt_of_le hlt hb.size, hc, fun i x hi => range_belowR (hr i x hi) hb hlt⟩⟩
def rowsRc (l : List Rc) : List Value := l.flatMap Rc.L
theorem Rc.L_length (x : Rc) : x.L.length = 8 := rfl
def OwnR (w : World) (base : Nat) (v : Value) (l : List Rc) : Prop := w.ownsRow base 31 8 v l.length (rowsRc l)
theorem OwnR.recs {w : World} {base : Nat} {sp : Option Addr} {n cap : Nat} {l : List Rc} (h : OwnR w base (.slice sp n cap) l) (hn : l.length = n) (hd : ∀ x ∈ l, RcIn x w) : RcsIn w sp n cap l := by
 refine ⟨hn, hd, fun h0 => ?_⟩
 have h1 := h
 obtain ⟨_, ⟨e, e0⟩ | ⟨g, cap', cur, e, _⟩⟩ := h
 ·omega
 ·injection e with e1 e2 e3
  subst e1
  obtain ⟨hg, hc, hr⟩ := own_rangeG (f := Rc.L) h1 (fun x _ => x.L_length) hn
  exact ⟨g, 0, rfl, hg, hc, hr⟩
theorem OwnR.below {w w' : World} {base : Nat} {v : Value} {l : List Rc} (h : OwnR w base v l) (hb : Below w.heap.size w w') : OwnR w' base v l := own_belowG h hb
end Go.Proofs.YtecllfbadciaoaaGreatDoor
