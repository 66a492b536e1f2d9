/-
  The walk of layer 12's light: what it says of a record that it lets pass (condition: the record stands in memory, of any size that memory has).
-/
import Derived.Test.YtecllfbadciaoaaGreatDoorZip
import Derived.Test.YtecllfbadciaoaaGreatDoorRecK
set_option maxRecDepth 100000
set_option maxHeartbeats 8000000
namespace Go.Proofs.YtecllfbadciaoaaGreatDoor
open Go.RowKit
structure RcAt (x : Rc) (w : World) : Prop where
 c : StrsIn w w.heap.size x.c1 x.cn x.c
 v : VrsIn w w.heap.size x.v1 x.vn x.vc x.v
 m : EnsIn w w.heap.size x.m1 x.mn x.mc x.m
 p : EnsIn w w.heap.size x.p1 x.pn x.pc x.p
 b : x.run.size ≤ maxLen ∧ x.scp.size ≤ maxLen ∧ x.stp.size ≤ maxLen ∧ x.cn ≤ maxLen ∧ x.vn ≤ maxLen ∧ x.mn ≤ maxLen ∧ x.pn ≤ maxLen
 s : (∀ y ∈ x.c, y.size ≤ maxLen) ∧ (∀ y ∈ x.v, y.n.size ≤ maxLen ∧ y.v.size ≤ maxLen)
 t : -9223372036854775808 ≤ x.t ∧ x.t ≤ 9223372036854775807
theorem RcAt.below {x : Rc} {w w' : World} (h : RcAt x w) (hb : Below w.heap.size w w') : RcAt x w' := ⟨h.c.upR hb, h.v.up hb, h.m.upR hb, h.p.upR hb, h.b, h.s, h.t⟩
theorem RcAt.light {x : Rc} {w : World} (h : RcAt x w) (h1 : x.cn ≤ 50 ∧ x.vn ≤ 50 ∧ x.mn ≤ 100 ∧ x.pn ≤ 100) (h2 : ∀ y ∈ x.c, y.size ≤ 500) (h3 : ∀ y ∈ x.v, y.v.size ≤ 500) (h4 : x.scp.size ≤ 500) : RcIn x w :=
 ⟨h.c, h.v, h.m, h.p, ⟨h.b.1, by omega, h.b.2.2.1, by omega, by omega, by omega, by omega⟩, ⟨fun y hy => by have := h2 y hy; omega, fun y hy => ⟨(h.s.2 y hy).1, by have := h3 y hy; omega⟩⟩, h.t⟩
theorem take_allQ {α : Type} {p : α → Prop} (l : List α) (k : Nat) (x : α) (hx : l[k]? = some x) (h : ∀ y ∈ l.take k, p y) (hp : p x) : ∀ y ∈ l.take (k + 1), p y := by
 intro y hy
 rw [List.take_add_one, hx] at hy
 rcases List.mem_append.1 hy with h1 | h1
 ·exact h y h1
 ·simp at h1; subst h1; exact hp
theorem light_any (x : Rc) (w : World) (hx : RcAt x w) :
 Calls Tryz.prog 38 #[.agg x.L.toArray] w fun e w' => ∃ b, e = .returned (.bool b) ∧ (b = true → RcIn x w') ∧ Below w.heap.size w w' := by
 have hb0 : Below w.heap.size w (w.alloc (.cells x.L.toArray 31)) := (Below.refl _ _).alloc (Nat.le_refl _) _
 have HR : Hid ((w.alloc (.cells x.L.toArray 31)).heap[w.heap.size]? = some (.cells x.L.toArray 31 (0, 0))) := heap_alloc_new _ _
 have HX := zh (hx.below hb0)
 have HB := zh hb0
 have HZ := zh hx.b
 clear hx hb0
 have hm : maxLen = 9223372036854775807 := rfl
 go_enter Tryz.func38, Tryz.ntmps38
 go_upto_region 1 with fail
 generalize hw0 : World.alloc w _ = w0
 have HR0 : Hid (w0.heap[w.heap.size]? = some (.cells x.L.toArray 31 (0, 0))) := by rw [← hw0]; exact HR.out
 have HX0 : Hid (RcAt x w0) := by rw [← hw0]; exact HX.out
 have HB0 : Hid (Below w.heap.size w w0) := by rw [← hw0]; exact HB.out
 clear hw0 HR HX HB
 have c0 : w0.cell? ⟨w.heap.size, 0, none⟩ = some (.string x.run) := heap_cellR HR0.out rfl
 have c1 : w0.cell? ⟨w.heap.size, 1, none⟩ = some (.string x.scp) := heap_cellR HR0.out rfl
 have c2 : w0.cell? ⟨w.heap.size, 2, none⟩ = some (.string x.stp) := heap_cellR HR0.out rfl
 have c4 : w0.cell? ⟨w.heap.size, 4, none⟩ = some (.slice x.c1 x.cn x.cc) := heap_cellR HR0.out rfl
 have c5 : w0.cell? ⟨w.heap.size, 5, none⟩ = some (.slice x.v1 x.vn x.vc) := heap_cellR HR0.out rfl
 have c6 : w0.cell? ⟨w.heap.size, 6, none⟩ = some (.slice x.m1 x.mn x.mc) := heap_cellR HR0.out rfl
 have c7 : w0.cell? ⟨w.heap.size, 7, none⟩ = some (.slice x.p1 x.pn x.pc) := heap_cellR HR0.out rfl
 by_cases h1 : 50 < x.cn
 ·have hd : decide ((x.cn : Int) > 50) = true := by simp; omega
  go_wp2_with fail
  go_ret
  exact ⟨false, rfl, nofun, HB0.out⟩
 have hd : decide ((x.cn : Int) > 50) = false := by simp; omega
 by_cases h2 : 50 < x.vn
 ·have hd2 : decide ((x.vn : Int) > 50) = true := by simp; omega
  go_wp2_with fail
  go_ret
  exact ⟨false, rfl, nofun, HB0.out⟩
 have hd2 : decide ((x.vn : Int) > 50) = false := by simp; omega
 by_cases h3 : 100 < x.mn
 ·have hd3 : decide ((x.mn : Int) > 100) = true := by simp; omega
  go_wp2_with fail
  go_ret
  exact ⟨false, rfl, nofun, HB0.out⟩
 have hd3 : decide ((x.mn : Int) > 100) = false := by simp; omega
 by_cases h4 : 100 < x.pn
 ·have hd4 : decide ((x.pn : Int) > 100) = true := by simp; omega
  go_wp2_with fail
  go_ret
  exact ⟨false, rfl, nofun, HB0.out⟩
 have hd4 : decide ((x.pn : Int) > 100) = false := by simp; omega
 have HN : Hid (x.cn ≤ 50 ∧ x.vn ≤ 50 ∧ x.mn ≤ 100 ∧ x.pn ≤ 100) := ⟨by omega, by omega, by omega, by omega⟩
 have hcn := HN.out.1; have hvn := HN.out.2.1
 go_upto_region 3 with fail
 clear hd hd2 hd3 hd4 h1 h2 h3 h4 c6 c7
 go_wp2_with fail
 go_loopw [3] (fun i wr => ∃ k : Nat, k ≤ x.cn ∧ i = .int .i64 k ∧ Hid (∀ y ∈ x.c.take k, y.size ≤ 500) ∧ wr = w0) (fun i _ => x.cn - (intOf i).toNat)
 case atStart => exact ⟨0, by omega, rfl, by show ∀ _, _; simp, rfl⟩
 case round =>
  obtain ⟨k, hk, rfl, HA, rfl⟩ := hrel
  by_cases hlt : k < x.cn
  ·have hd : decide ((k : Int) < (x.cn : Int)) = true := by simp; omega
   obtain ⟨b, off, hc1, hb, hcell⟩ := HX0.out.c.cells (by omega)
   have hk2 : k < x.c.length := by have := HX0.out.c.len; omega
   have ck := hcell k hk2
   rw [hc1] at c4
   have p1 : (0 : Int) ≤ (k : Int) := by omega
   have p2 : (k : Int) < (x.cn : Int) := by omega
   have HK := zh (take_allQ (p := fun y : ByteArray => y.size ≤ 500) x.c k _ (List.getElem?_eq_getElem hk2) HA.out)
   clear hcell
   generalize x.c[k] = s at *
   by_cases h500 : 500 < s.size
   ·have hd2 : decide ((s.size : Int) > 500) = true := by simp; omega
    go_wp2_with fail
    go_ret
    exact ⟨false, rfl, nofun, HB0.out⟩
   ·have hd2 : decide ((s.size : Int) > 500) = false := by simp; omega
    have HK2 := zh (HK.out (by omega))
    go_wp2_with fail
    go_roundw
    case rel => exact ⟨k + 1, by omega, by go_num, HK2.out, by first | rfl | exact trivial⟩
    case measure => simp [intOf]; omega
  ·obtain rfl : k = x.cn := by omega
   have hd : decide ((x.cn : Int) < (x.cn : Int)) = false := by simp
   have HC : Hid (∀ y ∈ x.c, y.size ≤ 500) := by
    show ∀ _, _
    have h := HA.out
    rw [List.take_of_length_le (by rw [HX0.out.c.len]; exact Nat.le_refl _)] at h
    exact h
   go_upto_region 8 with fail
   clear hd c4 HA
   go_wp2_with fail
   go_loopw [4] (fun i wz => ∃ k : Nat, k ≤ x.vn ∧ i = .int .i64 k ∧ Hid (∀ y ∈ x.v.take k, y.v.size ≤ 500) ∧ wz = wr) (fun i _ => x.vn - (intOf i).toNat)
   case atStart => exact ⟨0, by omega, rfl, by show ∀ _, _; simp, rfl⟩
   case round =>
    obtain ⟨k, hk, rfl, HA, rfl⟩ := hrel
    by_cases hlt : k < x.vn
    ·have hd : decide ((k : Int) < (x.vn : Int)) = true := by simp; omega
     obtain ⟨b, off, hc1, hb, hcap, hcell⟩ := HX0.out.v.cells (by omega)
     have hk2 : k < x.v.length := by have := HX0.out.v.len; omega
     obtain ⟨y, hy⟩ : ∃ y, x.v[k]? = some y := ⟨x.v[k], List.getElem?_eq_getElem hk2⟩
     have ck := hcell k y hy 1 _ rfl
     rw [hc1] at c5
     have p1 : (0 : Int) ≤ (k : Int) := by omega
     have p2 : (k : Int) < (x.vn : Int) := by omega
     have HK := zh (take_allQ (p := fun y : Vr => y.v.size ≤ 500) x.v k _ hy HA.out)
     have hyl : y.v.size ≤ maxLen := (HX0.out.s.2 y (List.mem_of_getElem? hy)).2
     clear hcell
     by_cases h500 : 500 < y.v.size
     ·have hd2 : decide ((y.v.size : Int) > 500) = true := by simp; omega
      go_wp2_with fail
      go_ret
      exact ⟨false, rfl, nofun, HB0.out⟩
     ·have hd2 : decide ((y.v.size : Int) > 500) = false := by simp; omega
      have HK2 := zh (HK.out (by omega))
      go_wp2_with fail
      go_roundw
      case rel => exact ⟨k + 1, by omega, by go_num, HK2.out, by first | rfl | exact trivial⟩
      case measure => simp [intOf]; omega
    ·obtain rfl : k = x.vn := by omega
     have hd : decide ((x.vn : Int) < (x.vn : Int)) = false := by simp
     have HV : Hid (∀ y ∈ x.v, y.v.size ≤ 500) := by
      show ∀ _, _
      have h := HA.out
      rw [List.take_of_length_le (by rw [HX0.out.v.len]; exact Nat.le_refl _)] at h
      exact h
     have hb1 := HZ.out.1
     have hb2 := HZ.out.2.1
     have hb3 := HZ.out.2.2.1
     go_upto_region 13 with fail
     clear hd c5
     by_cases e1 : x.run.size ≤ 300
     ·have hd1 : decide ((x.run.size : Int) ≤ 300) = true := by simp; omega
      by_cases e2 : x.scp.size ≤ 500
      ·have hd2 : decide ((x.scp.size : Int) ≤ 500) = true := by simp; omega
       go_wp2_with fail
       go_ret
       exact ⟨_, rfl, fun _ => HX0.out.light HN.out HC.out HV.out e2, HB0.out⟩
      ·have hd2 : decide ((x.scp.size : Int) ≤ 500) = false := by simp; omega
       go_wp2_with fail
       go_ret
       exact ⟨false, rfl, nofun, HB0.out⟩
     ·have hd1 : decide ((x.run.size : Int) ≤ 300) = false := by simp; omega
      go_wp2_with fail
      go_ret
      exact ⟨false, rfl, nofun, HB0.out⟩
theorem tb_noStr {w : World} {tb k o : Nat} {s : ByteArray} (h : Tp w tb k) : w.cell? ⟨tb, o, none⟩ ≠ some (.string s) := by
 obtain ⟨sp, n, cap, l, j, h, _⟩ := h
 rw [cell_of_row w tb o _ _ _ h.row]
 match o with
 | 0 => simp
 | 1 => simp
 | o + 2 => simp
theorem Turn.rangeQ {tb : Nat} {w w' : World} {b o : Nat} {L : List Value} (hu : Turn tb w w') (hb : b < w.heap.size) (hne : b ≠ tb) (h : w.rangeAt b o L) : w'.rangeAt b o L := fun j v hv => (hu.cell hb hne).trans (h j v hv)
theorem RcIn.turnQ {x : Rc} {w w' : World} {tb k : Nat} (h : RcIn x w) (ht : Tp w tb k) (hu : Turn tb w w') : RcIn x w' := by
 refine ⟨⟨h.c.len, fun hn => ?_⟩, ⟨h.v.len, fun hn => ?_⟩, ⟨h.m.len, h.m.ok, fun hn => ?_⟩, ⟨h.p.len, h.p.ok, fun hn => ?_⟩, h.b, h.s, h.t⟩
 ·obtain ⟨b, off, e, hlt, hc⟩ := h.c.cells hn
  have hl := h.c.len
  have hne : b ≠ tb := by
   rintro rfl
   exact tb_noStr ht (hc 0 (by omega))
  exact ⟨b, off, e, Nat.lt_of_lt_of_le hlt hu.size, fun j hj => (hu.cell hlt hne).trans (hc j hj)⟩
 ·obtain ⟨b, off, e, hlt, hcap, hc⟩ := h.v.cells hn
  have hl := h.v.len
  have hne : b ≠ tb := by
   rintro rfl
   exact tb_noStr ht (hc 0 _ (List.getElem?_eq_getElem (by omega)) 0 _ rfl)
  exact ⟨b, off, e, Nat.lt_of_lt_of_le hlt hu.size, hcap, fun i y hy => hu.rangeQ hlt hne (hc i y hy)⟩
 ·obtain ⟨b, off, e, hlt, hcap, hc⟩ := h.m.cells hn
  have hl := h.m.len
  have hne : b ≠ tb := by
   rintro rfl
   exact tb_noStr ht (hc 0 _ (List.getElem?_eq_getElem (by omega)) 0 _ rfl)
  exact ⟨b, off, e, Nat.lt_of_lt_of_le hlt hu.size, hcap, fun i y hy => hu.rangeQ hlt hne (hc i y hy)⟩
 ·obtain ⟨b, off, e, hlt, hcap, hc⟩ := h.p.cells hn
  have hl := h.p.len
  have hne : b ≠ tb := by
   rintro rfl
   exact tb_noStr ht (hc 0 _ (List.getElem?_eq_getElem (by omega)) 0 _ rfl)
  exact ⟨b, off, e, Nat.lt_of_lt_of_le hlt hu.size, hcap, fun i y hy => hu.rangeQ hlt hne (hc i y hy)⟩
structure OdT (tb go k : Nat) (wb : World) (y : Rc) (w : World) : Prop where
 row : w.heap[go]? = some (.cells y.L.toArray 31 (0, 0))
 i : RcIn y wb
 t0 : ∃ k0, Tp wb tb k0
 tp : Tp w tb k
 tu : Turn tb wb w
 lt : wb.heap.size ≤ go ∧ tb < wb.heap.size
theorem OdT.inn {tb go k : Nat} {wb : World} {y : Rc} {w : World} (h : OdT tb go k wb y w) : RcIn y w := by
 obtain ⟨k0, h0⟩ := h.t0
 exact h.i.turnQ h0 h.tu
theorem OdT.draw {tb go k k' : Nat} {wb : World} {y : Rc} {w w' : World} (h : OdT tb go k wb y w) (hu : Turn tb w w') (ht : Tp w' tb k') : OdT tb go k' wb y w' :=
 ⟨(hu.block go (Array.getElem?_eq_some_iff.1 h.row).1 (by have := h.lt; omega)).trans h.row, h.i, h.t0, ht, h.tu.trans hu, h.lt⟩
theorem OdT.new {tb go k : Nat} {wb : World} {y : Rc} {w : World} (h : OdT tb go k wb y w) (o : Obj) : OdT tb go k wb y (w.alloc o) :=
 have hb : Below w.heap.size w (w.alloc o) := (Below.refl _ _).alloc (Nat.le_refl _) _
 h.draw (Turn.of hb) (h.tp.of hb)
theorem OdT.below {tb go k : Nat} {wb : World} {y : Rc} {w w' : World} (h : OdT tb go k wb y w) (hb : Below w.heap.size w w') : OdT tb go k wb y w' := h.draw (Turn.of hb) (h.tp.of hb)
structure OdE (tb go : Nat) (wb : World) (y : Rc) (w : World) : Prop where
 row : w.heap[go]? = some (.cells y.L.toArray 31 (0, 0))
 i : RcIn y w
 tu : Turn tb wb w
theorem OdT.cell {tb go k j : Nat} {v : Value} {wb : World} {y : Rc} {w : World} (h : OdT tb go k wb y w) (hj : y.L[j]? = some v) : w.cell? ⟨go, j, none⟩ = some v ∧ w.frozen? ⟨go, j, none⟩ = false := ⟨heap_cellR h.row hj, frozen_of_row _ _ _ _ _ h.row⟩
theorem OdT.put {tb go k : Nat} {wb : World} {y y' : Rc} {w : World} (h : OdT tb go k wb y w) (j : Nat) (u : Value) (hr : y.L.toArray.setIfInBounds j u = y'.L.toArray) (hi : RcIn y (w.setCell ⟨go, j, none⟩ u) → RcIn y' (w.setCell ⟨go, j, none⟩ u)) : OdE tb go wb y' (w.setCell ⟨go, j, none⟩ u) := by
 have hb2 : Below wb.heap.size w (w.setCell ⟨go, j, none⟩ u) := (Below.refl wb.heap.size w).setCell (p := ⟨go, j, none⟩) h.lt.1 _
 have htu := h.tu.below2 hb2
 obtain ⟨k0, h0⟩ := h.t0
 exact ⟨by rw [heap_setCell_same _ _ _ _ _ _ h.row, hr], hi (h.i.turnQ h0 htu), htu⟩
theorem set0 (y : Rc) (s : ByteArray) : y.L.toArray.setIfInBounds 0 (.string s) = ({ y with run := s } : Rc).L.toArray := by simp [Rc.L]
theorem set1 (y : Rc) (s : ByteArray) : y.L.toArray.setIfInBounds 1 (.string s) = ({ y with scp := s } : Rc).L.toArray := by simp [Rc.L]
theorem set2 (y : Rc) (s : ByteArray) : y.L.toArray.setIfInBounds 2 (.string s) = ({ y with stp := s } : Rc).L.toArray := by simp [Rc.L]
theorem set3 (y : Rc) (t : Int) : y.L.toArray.setIfInBounds 3 (.int .i64 t) = ({ y with t := t } : Rc).L.toArray := by simp [Rc.L]
theorem set5 (y : Rc) (sp : Option Addr) (n c : Nat) (l : List Vr) : y.L.toArray.setIfInBounds 5 (.slice sp n c) = ({ y with v1 := sp, vn := n, vc := c, v := l } : Rc).L.toArray := by simp [Rc.L]
theorem set6 (y : Rc) (sp : Option Addr) (n c : Nat) (l : List En) : y.L.toArray.setIfInBounds 6 (.slice sp n c) = ({ y with m1 := sp, mn := n, mc := c, m := l } : Rc).L.toArray := by simp [Rc.L]
theorem set7 (y : Rc) (sp : Option Addr) (n c : Nat) (l : List En) : y.L.toArray.setIfInBounds 7 (.slice sp n c) = ({ y with p1 := sp, pn := n, pc := c, p := l } : Rc).L.toArray := by simp [Rc.L]
theorem RcIn.set0 {y : Rc} {w : World} (h : RcIn y w) {s : ByteArray} (hs : s.size ≤ 100) : RcIn { y with run := s } w := ⟨h.c, h.v, h.m, h.p, ⟨show s.size ≤ maxLen by unfold maxLen; omega, h.b.2⟩, h.s, h.t⟩
theorem RcIn.set1 {y : Rc} {w : World} (h : RcIn y w) {s : ByteArray} (hs : s.size ≤ 100) : RcIn { y with scp := s } w := ⟨h.c, h.v, h.m, h.p, ⟨h.b.1, show s.size ≤ 100000 by omega, h.b.2.2⟩, h.s, h.t⟩
theorem RcIn.set2 {y : Rc} {w : World} (h : RcIn y w) {s : ByteArray} (hs : s.size ≤ 100) : RcIn { y with stp := s } w := ⟨h.c, h.v, h.m, h.p, ⟨h.b.1, h.b.2.1, show s.size ≤ maxLen by unfold maxLen; omega, h.b.2.2.2⟩, h.s, h.t⟩
theorem RcIn.set3 {y : Rc} {w : World} (h : RcIn y w) {t : Int} (ht : -9223372036854775808 ≤ t ∧ t ≤ 9223372036854775807) : RcIn { y with t := t } w := ⟨h.c, h.v, h.m, h.p, h.b, h.s, ht⟩
theorem RcIn.set5 {y : Rc} {w : World} (h : RcIn y w) {sp : Option Addr} {n c : Nat} {l : List Vr} (hv : VrsIn w w.heap.size sp n c l) (hn : n ≤ 1000) (hl : ∀ z ∈ l, z.n.size ≤ maxLen ∧ z.v.size ≤ 100000) : RcIn { y with v1 := sp, vn := n, vc := c, v := l } w := ⟨h.c, hv, h.m, h.p, ⟨h.b.1, h.b.2.1, h.b.2.2.1, h.b.2.2.2.1, hn, h.b.2.2.2.2.2⟩, ⟨h.s.1, hl⟩, h.t⟩
theorem RcIn.set6 {y : Rc} {w : World} (h : RcIn y w) {sp : Option Addr} {n c : Nat} {l : List En} (hv : EnsIn w w.heap.size sp n c l) (hn : n ≤ 1000) : RcIn { y with m1 := sp, mn := n, mc := c, m := l } w := ⟨h.c, h.v, hv, h.p, ⟨h.b.1, h.b.2.1, h.b.2.2.1, h.b.2.2.2.1, h.b.2.2.2.2.1, hn, h.b.2.2.2.2.2.2⟩, h.s, h.t⟩
theorem RcIn.set7 {y : Rc} {w : World} (h : RcIn y w) {sp : Option Addr} {n c : Nat} {l : List En} (hv : EnsIn w w.heap.size sp n c l) (hn : n ≤ 1000) : RcIn { y with p1 := sp, pn := n, pc := c, p := l } w := ⟨h.c, h.v, h.m, hv, ⟨h.b.1, h.b.2.1, h.b.2.2.1, h.b.2.2.2.1, h.b.2.2.2.2.1, h.b.2.2.2.2.2.1, hn⟩, h.s, h.t⟩
theorem own_shapeG {w : World} {base e size : Nat} {v : Value} {n : Nat} {xs : List Value} (h : w.ownsRow base e size v n xs) : ∃ sp cap, v = .slice sp n cap := by
 obtain ⟨_, ⟨rfl, h0⟩ | ⟨g, cap, _, rfl, _⟩⟩ := h
 ·subst h0; exact ⟨_, _, rfl⟩
 ·exact ⟨_, _, rfl⟩
theorem own_baseG {w : World} {base e size : Nat} {v : Value} {n : Nat} {xs : List Value} (h : w.ownsRow base e size v n xs) : ∀ k, v.ownBlock = some k → base ≤ k := by
 intro k hk
 obtain ⟨_, ⟨rfl, _⟩ | ⟨g, cap, _, rfl, hb, _⟩⟩ := h
 ·cases hk
 ·injection hk with hk; subst hk; exact hb
theorem own_belowG {w w' : World} {base e size : Nat} {v : Value} {n : Nat} {xs : List Value} (h : w.ownsRow base e size v n xs) (hb : Below w.heap.size w w') : w'.ownsRow base e size v n xs := by
 obtain ⟨hl, h1 | ⟨g, cap, cur, rfl, hbg, hg, rest⟩⟩ := h
 ·exact ⟨hl, .inl h1⟩
 ·exact ⟨hl, .inr ⟨g, cap, cur, rfl, hbg, (hb.block g (Array.getElem?_eq_some_iff.1 hg).1).trans hg, rest⟩⟩
theorem flat_atG {α : Type} (f : α → List Value) (sz : Nat) : ∀ (l : List α), (∀ x ∈ l, (f x).length = sz) → ∀ i x, l[i]? = some x → ∀ j v, (f x)[j]? = some v → (l.flatMap f)[i * sz + j]? = some v
 | [], _, i, x, hi, _, _, _ => by simp at hi
 | y :: l, h, 0, x, hi, j, v, hv => by
   have e : y = x := by simpa using hi
   subst e
   have hj := (List.getElem?_eq_some_iff.1 hv).1
   rw [List.flatMap_cons, Nat.zero_mul, Nat.zero_add, List.getElem?_append_left hj, hv]
 | y :: l, h, i + 1, x, hi, j, v, hv => by
   have hy := h y (by simp)
   rw [List.flatMap_cons, List.getElem?_append_right (by rw [hy, Nat.add_mul]; omega), hy, show (i + 1) * sz + j - sz = i * sz + j by rw [Nat.add_mul]; omega]
   exact flat_atG f sz l (fun z hz => h z (by simp [hz])) i x (by simpa using hi) j v hv
theorem own_rangeG {α : Type} {f : α → List Value} {sz : Nat} {w : World} {base e : Nat} {g n cap : Nat} {l : List α} (h : w.ownsRow base e sz (.slice (some ⟨g, 0, none⟩) n cap) l.length (l.flatMap f)) (hs : ∀ x ∈ l, (f x).length = sz) (hn : l.length = n) :
 g < w.heap.size ∧ n ≤ cap ∧ ∀ i x, l[i]? = some x → w.rangeAt g (0 + i * sz) (f x) := by
 obtain ⟨_, ⟨h1, _⟩ | ⟨g', cap', cur, h1, _, hg, hle, _, hsz, htk⟩⟩ := h
 ·cases h1
 ·injection h1 with h1 h2 h3
  injection h1 with h1; injection h1 with h1
  subst h1; subst h3
  refine ⟨(Array.getElem?_eq_some_iff.1 hg).1, by omega, fun i x hi j v hv => ?_⟩
  show w.cell? ⟨g, 0 + i * sz + j, none⟩ = some v
  rw [cell_of_row w g _ cur e _ hg, Nat.zero_add]
  have h4 := flat_atG f sz l hs i x hi j v hv
  rw [← htk, List.getElem?_take] at h4
  split at h4
  ·simpa using h4
  ·cases h4
structure RcsIn (w : World) (sp : Option Addr) (n cap : Nat) (l : List Rc) : Prop where
 len : l.length = n
 recs : ∀ x ∈ l, RcIn x w
 cells : 0 < n → ∃ b off, sp = some ⟨b, off, none⟩ ∧ b < w.heap.size ∧ n ≤ cap ∧ ∀ i x, l[i]? = some x → w.rangeAt b (off + i * 8) x.L
theorem RcsIn.up {w w' : World} {sp : Option Addr} {n cap : Nat} {l : List Rc} (h : RcsIn w sp n cap l) (hb : Below w.heap.size w w') : RcsIn w' sp n cap l :=
 ⟨h.len, fun x hx => (h.recs x hx).below hb, fun hn => by
  obtain ⟨b, off, e, hlt, hc, hr⟩ := h.cells hn
  exact ⟨b, off, e, Nat.lt_of_lt_of_le hlt hb.size, hc, fun i x hi => range_belowR (hr i x hi) hb hlt⟩⟩
def rowsRc (l : List Rc) : List Value := l.flatMap Rc.L
theorem rowsRc_snoc (l : List Rc) (x : Rc) : rowsRc (l ++ [x]) = rowsRc l ++ x.L := by simp [rowsRc]
theorem rowsRc_one {l : List Rc} : ∀ u ∈ rowsRc l, u.oneCell' = true := fun u hu => by
 obtain ⟨x, _, hu⟩ := List.mem_flatMap.1 hu
 simp [Rc.L] at hu
 rcases hu with rfl | rfl | rfl | rfl | rfl | rfl | rfl | rfl <;> rfl
theorem Rc.L_length (x : Rc) : x.L.length = 8 := rfl
def OwnR (w : World) (base : Nat) (v : Value) (l : List Rc) : Prop := w.ownsRow base 31 8 v l.length (rowsRc l)
theorem OwnR.recs {w : World} {base : Nat} {sp : Option Addr} {n cap : Nat} {l : List Rc} (h : OwnR w base (.slice sp n cap) l) (hn : l.length = n) (hd : ∀ x ∈ l, RcIn x w) : RcsIn w sp n cap l := by
 refine ⟨hn, hd, fun h0 => ?_⟩
 have h1 := h
 obtain ⟨_, ⟨e, e0⟩ | ⟨g, cap', cur, e, _⟩⟩ := h
 ·omega
 ·injection e with e1 e2 e3
  subst e1
  obtain ⟨hg, hc, hr⟩ := own_rangeG (f := Rc.L) h1 (fun x _ => x.L_length) hn
  exact ⟨g, 0, rfl, hg, hc, hr⟩
def zRq : List Value := [.string ByteArray.empty, .string ByteArray.empty, .string ByteArray.empty, .int .i64 0, .slice none 0 0, .slice none 0 0, .slice none 0 0, .slice none 0 0]
theorem infoRc3 : (Tryz.prog.info? 31).map (fun i => (i.zero, i.size, i.bytes)) = some (some (.agg zRq.toArray), 8, 152) := by kernel_rfl
theorem OwnR.below {w w' : World} {base : Nat} {v : Value} {l : List Rc} (h : OwnR w base v l) (hb : Below w.heap.size w w') : OwnR w' base v l := own_belowG h hb
theorem wpList_append_rc {w : World} {ops : Array Oper} {rest : List Oper} {o : Oper} {a : Act} {Q : Exit → Act → World → Prop} (hgd : o.guard = none) (s x : Operand)
 (ho : o.op = .call { callee := .builtin .append, args := #[s, x], argTypes := #[42, 42] }) (base : Nat) (v : Value) (l : List Rc) (n : Nat) (hn : n = l.length) (hs : a.eval s = v) (hown : OwnR w base v l)
 (g : Nat) (y : Rc) (hx : a.eval x = .slice (some ⟨g, 0, none⟩) 1 1) (hy : w.heap[g]? = some (.cells y.L.toArray 31 (0, 0))) (hlen : n ≤ 1000000) (hbase : base ≤ w.heap.size)
 (h : ∀ sp cap w', Hid (OwnR w' base (.slice sp (n + 1) cap) (l ++ [y])) → Hid (Below base w w') → Hid (w.grownBy w' v.ownBlock) → wpList Tryz.prog ops Q rest (a.put o.dst (.slice sp (n + 1) cap)) w') : wpList Tryz.prog ops Q (o :: rest) a w := by
 subst hn
 obtain ⟨i0, hi0, hz0, hz1, hz2⟩ := info_partsQ infoRc3
 refine wpList_append_own w hgd s x _ ho base _ i0 _ 8 152 Tryz.underlying42 hi0 hz0 hz1 hz2 rfl (by decide) v l.length _ hs hown ⟨g, 0, none⟩ 1 1 y.L hx rfl ?_ (fun u hu => rowsRc_one (l := [y]) u (by simpa [rowsRc] using hu)) (by unfold maxLen; omega) (by omega) hbase ?_
 ·intro j u hj
  rw [Addr.add_mid, Nat.zero_add]
  exact heap_cellR hy hj
 ·intro v' w' h1 h2 _
  obtain ⟨sp, cap, rfl⟩ := own_shapeG h1
  exact h sp cap w' (by show OwnR _ _ _ _; unfold OwnR; rw [rowsRc_snoc, List.length_append]; exact h1) ((Below.refl base w).grown h2 hbase (own_baseG hown)) h2
theorem sliceRc2 (x y : Rc) (w : World) : (Instr.buildSlice 42 2 #[(0, .agg x.L.toArray), (1, .agg y.L.toArray)]).run Tryz.prog w = .ok (.slice (some ⟨w.heap.size, 0, none⟩) 2 2) (w.alloc (.cells (x.L ++ y.L).toArray 31)) := by kernel_rfl
theorem sliceRc1 (x : Rc) (w : World) : (Instr.buildSlice 42 1 #[(0, .agg x.L.toArray)]).run Tryz.prog w = .ok (.slice (some ⟨w.heap.size, 0, none⟩) 1 1) (w.alloc (.cells x.L.toArray 31)) := by kernel_rfl
theorem own_two (x y : Rc) (w : World) : OwnR (w.alloc (.cells (x.L ++ y.L).toArray 31)) w.heap.size (.slice (some ⟨w.heap.size, 0, none⟩) 2 2) [x, y] :=
 ⟨by simp [rowsRc, Rc.L], .inr ⟨w.heap.size, 2, (x.L ++ y.L).toArray, rfl, Nat.le_refl _, heap_alloc_new w _, Nat.le_refl _, by unfold maxLen; omega, by simp [Rc.L], by simp [rowsRc, Rc.L]⟩⟩
def RcsAns (w : World) (e : Ending) (w' : World) : Prop := ∃ sp n cap l, e = .returned (.slice sp n cap) ∧ RcsIn w' sp n cap l ∧ n ≤ 3 ∧ Below w.heap.size w w'
theorem all_two {P : Rc → Prop} {x y : Rc} (h1 : P x) (h2 : P y) : ∀ z ∈ [x, y], P z := by
 intro z hz
 simp at hz
 rcases hz with rfl | rfl
 ·exact h1
 ·exact h2
theorem all_three {P : Rc → Prop} {x y u : Rc} (h1 : P x) (h2 : P y) (h3 : P u) : ∀ z ∈ [x, y] ++ [u], P z := by
 intro z hz
 simp at hz
 rcases hz with rfl | rfl | rfl
 ·exact h1
 ·exact h2
 ·exact h3
end Go.Proofs.YtecllfbadciaoaaGreatDoor
