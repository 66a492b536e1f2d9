/-
  The walk of record.Valid (condition: the record stands in memory, within the statements' bounds).
-/
import Derived.Test.YtecllfbadciaoaaGreatDoorZip
import Derived.Test.YtecllfbadciaoaaGreatDoorRecD
set_option maxRecDepth 100000
set_option maxHeartbeats 8000000
namespace Go.Proofs.YtecllfbadciaoaaGreatDoor
open Go.RowKit
structure RcBox (x : Rc) (w w' : World) : Prop where
 r : w'.heap[w.heap.size]? = some (.cells x.L.toArray 31 (0, 0))
 i : RcIn x w'
 b : Below w.heap.size w w'
theorem RcBox.new {x : Rc} {w : World} (h : RcIn x w) : RcBox x w (w.alloc (.cells x.L.toArray 31)) :=
 ⟨heap_alloc_new _ _, h.below ((Below.refl _ _).alloc (Nat.le_refl _) _), (Below.refl _ _).alloc (Nat.le_refl _) _⟩
theorem RcBox.lt {x : Rc} {w w' : World} (h : RcBox x w w') : w.heap.size < w'.heap.size := (Array.getElem?_eq_some_iff.1 h.r).1
theorem RcBox.below {x : Rc} {w w1 w2 : World} (h : RcBox x w w1) (hb : Below w1.heap.size w1 w2) : RcBox x w w2 :=
 ⟨(hb.block _ h.lt).trans h.r, h.i.below hb, h.b.trans (hb.mono (Nat.le_of_lt h.lt))⟩
theorem RcBox.c0 {x : Rc} {w w' : World} (h : RcBox x w w') : w'.cell? ⟨w.heap.size, 0, none⟩ = some (.string x.run) := heap_cellR h.r rfl
theorem RcBox.c1 {x : Rc} {w w' : World} (h : RcBox x w w') : w'.cell? ⟨w.heap.size, 1, none⟩ = some (.string x.scp) := heap_cellR h.r rfl
theorem RcBox.c2 {x : Rc} {w w' : World} (h : RcBox x w w') : w'.cell? ⟨w.heap.size, 2, none⟩ = some (.string x.stp) := heap_cellR h.r rfl
theorem RcBox.c3 {x : Rc} {w w' : World} (h : RcBox x w w') : w'.cell? ⟨w.heap.size, 3, none⟩ = some (.int .i64 x.t) := heap_cellR h.r rfl
theorem RcBox.c4 {x : Rc} {w w' : World} (h : RcBox x w w') : w'.cell? ⟨w.heap.size, 4, none⟩ = some (.slice x.c1 x.cn x.cc) := heap_cellR h.r rfl
theorem RcBox.c5 {x : Rc} {w w' : World} (h : RcBox x w w') : w'.cell? ⟨w.heap.size, 5, none⟩ = some (.slice x.v1 x.vn x.vc) := heap_cellR h.r rfl
theorem RcBox.c6 {x : Rc} {w w' : World} (h : RcBox x w w') : w'.cell? ⟨w.heap.size, 6, none⟩ = some (.slice x.m1 x.mn x.mc) := heap_cellR h.r rfl
theorem RcBox.c7 {x : Rc} {w w' : World} (h : RcBox x w w') : w'.cell? ⟨w.heap.size, 7, none⟩ = some (.slice x.p1 x.pn x.pc) := heap_cellR h.r rfl
theorem validR_any (x : Rc) (w : World) (hx : RcIn x w) :
 Calls Tryz.prog 31 #[.agg x.L.toArray] w fun e w' => e = .returned (.bool (rcB x)) ∧ Below w.heap.size w w' := by
 have HX := zh (RcBox.new hx)
 have HBD := zh hx.b; have HSD := zh hx.s
 clear hx
 have HN1 := zh (fun w => Name_any x.run w HBD.out.1)
 have HN2 := zh (fun w => Name_any x.stp w HBD.out.2.2.1)
 have HSC := zh (fun w => Scope_any x.scp w (by have := HBD.out.2.1; unfold maxLen; omega))
 have HRA : Hid (rcA x = (nmB x.run.data.toList && scpB x.scp && nmB x.stp.data.toList)) := rfl
 have HRB : Hid (rcB x = (rcA x && (rcT x && (cmdB x.c && (envB x.v && (vldE x.m && vldE x.p)))))) := rfl
 generalize rcB x = RB at *
 generalize rcA x = RA at *
 generalize nmB x.run.data.toList = N1 at *
 generalize nmB x.stp.data.toList = N2 at *
 generalize scpB x.scp = SC at *
 go_enter Tryz.func31, Tryz.ntmps31
 go_upto_region 1 with fail
 generalize hw0 : World.alloc w _ = w0
 have HB0 : Hid (RcBox x w w0) := by rw [← hw0]; exact HX.out
 clear hw0 HX
 go_cut [3] (fun s3 wx => s3 = .bool RA ∧ Hid (RcBox x w wx))
 case first =>
  have c0 := HB0.out.c0; have c1 := HB0.out.c1
  go_wp2_with fail
  refine (HN1.out _).mono ?_
  rintro e w' ⟨rfl, rfl⟩
  cases N1
  ·clear c1
   go_wp2_with fail
   go_meet
   exact ⟨by rw [HRA.out]; rfl, HB0.out⟩
  ·go_wp2_with fail
   refine (HSC.out _).mono ?_
   rintro e w1 ⟨rfl, hb⟩
   have HB1 : Hid (RcBox x w w1) := HB0.out.below hb
   clear hb HB0 c0 c1
   cases SC
   ·go_wp2_with fail
    go_meet
    exact ⟨by rw [HRA.out]; rfl, HB1.out⟩
   ·have c2 := HB1.out.c2
    go_wp2_with fail
    refine (HN2.out _).mono ?_
    rintro e w' ⟨rfl, rfl⟩
    go_wp2_with fail
    go_meet
    exact ⟨by rw [HRA.out]; rfl, HB1.out⟩
 case rest =>
 obtain ⟨rfl, HB1⟩ := hcut
 clear HB0 HN1 HN2 HSC HRA
 have hK1 := ‹∀ (a : Act) (w : World), Code.wp _ _ _ a w → _›
 refine hK1 _ _ ?_
 clear hK1
 obtain ⟨w1, hw1⟩ : ∃ w1, w1 = wc := ⟨_, rfl⟩
 subst hw1
 have c3 := HB1.out.c3
 have HRT : Hid (rcT x = (decide (0 ≤ x.t) && decide (x.t ≤ 1099511627776))) := rfl
 generalize rcT x = RT at *
 go_upto_region 2 with fail
 go_cut [4] (fun s4 wx => s4 = .bool RT ∧ wx = w1)
 case first =>
  obtain ⟨b1, h1⟩ : ∃ b, decide (0 ≤ x.t) = b := ⟨_, rfl⟩
  obtain ⟨b2, h2⟩ : ∃ b, decide (x.t ≤ 1099511627776) = b := ⟨_, rfl⟩
  rw [h1, h2] at HRT
  cases b1
  ·go_wp2_with fail
   go_meet
   exact ⟨by rw [HRT.out]; rfl, rfl⟩
  ·go_wp2_with fail
   go_meet
   exact ⟨by rw [HRT.out]; rfl, rfl⟩
 case rest =>
 obtain ⟨rfl, rfl⟩ := hcut
 have hK1 := ‹∀ (a : Act) (w : World), Code.wp _ _ _ a w → _›
 refine hK1 _ _ ?_
 clear hK1 c3 HRT
 have HC4 := zh (validCommand_any x.c1 x.cn x.cc x.c wc HB1.out.i.c HBD.out.2.2.2.1)
 have HC5 := zh (validEnv_any x.v1 x.vn x.vc x.v wc HB1.out.i.v HBD.out.2.2.2.2.1 (fun y hy => (HSD.out.2 y hy).1))
 have HC6 := zh (fun w' (h : RcIn x w') => Valid_any x.m1 x.mn x.mc x.m w' h.m (by have := HBD.out.2.2.2.2.2.1; omega))
 have HC7 := zh (fun w' (h : RcIn x w') => Valid_any x.p1 x.pn x.pc x.p w' h.p (by have := HBD.out.2.2.2.2.2.2; omega))
 generalize cmdB x.c = R4 at *
 generalize envB x.v = R5 at *
 generalize vldE x.m = R6 at *
 generalize vldE x.p = R7 at *
 have c4 := HB1.out.c4; have c5 := HB1.out.c5
 cases RA
 ·go_wp2_with fail
  go_ret
  exact ⟨by rw [HRB.out]; rfl, HB1.out.b⟩
 cases RT
 ·go_wp2_with fail
  go_ret
  exact ⟨by rw [HRB.out]; rfl, HB1.out.b⟩
 go_wp2_with fail
 refine HC4.out.mono ?_
 rintro e w' ⟨rfl, rfl⟩
 cases R4
 ·go_wp2_with fail
  go_ret
  exact ⟨by rw [HRB.out]; rfl, HB1.out.b⟩
 go_wp2_with fail
 refine HC5.out.mono ?_
 rintro e w2 ⟨rfl, hb⟩
 have HB2 : Hid (RcBox x w w2) := HB1.out.below hb
 clear hb HB1 c4 c5 HC4 HC5
 have c6 := HB2.out.c6
 cases R5
 ·go_wp2_with fail
  go_ret
  exact ⟨by rw [HRB.out]; rfl, HB2.out.b⟩
 go_wp2_with fail
 refine (HC6.out w2 HB2.out.i).mono ?_
 rintro e w3 ⟨rfl, hb⟩
 have HB3 : Hid (RcBox x w w3) := HB2.out.below hb
 clear hb HB2 c6 HC6
 have c7 := HB3.out.c7
 cases R6
 ·go_wp2_with fail
  go_ret
  exact ⟨by rw [HRB.out]; rfl, HB3.out.b⟩
 go_wp2_with fail
 refine (HC7.out w3 HB3.out.i).mono ?_
 rintro e w4 ⟨rfl, hb⟩
 have HB4 : Hid (RcBox x w w4) := HB3.out.below hb
 clear hb HB3 c7 HC7
 go_wp2_with fail
 go_ret
 exact ⟨by rw [HRB.out]; rfl, HB4.out.b⟩
theorem info_partsQ {i : Option TypeInfo} {z : Option Value} {s b : Nat} (h : i.map (fun i => (i.zero, i.size, i.bytes)) = some (z, s, b)) : ∃ i0, i = some i0 ∧ i0.zero = z ∧ i0.size = s ∧ i0.bytes = b := by
 cases i with
 | none => cases h
 | some i0 => simp at h; exact ⟨i0, rfl, h.1, h.2.1, h.2.2⟩
theorem infoStrQ : (Tryz.prog.info? 9).map (fun i => (i.zero, i.size, i.bytes)) = some (some (.string ByteArray.empty), 1, 16) := by kernel_rfl
theorem own_shapeQ {w : World} {base e size : Nat} {v : Value} {n : Nat} {xs : List Value} (h : w.ownsRow base e size v n xs) : ∃ sp cap, v = .slice sp n cap := by
 obtain ⟨_, ⟨rfl, rfl⟩ | ⟨g, cap, cur, rfl, _⟩⟩ := h
 ·exact ⟨none, 0, rfl⟩
 ·exact ⟨_, cap, rfl⟩
theorem own_keptQ {w w' : World} {B e size n : Nat} {v : Value} {xs : List Value} (h : w.ownsRow B e size v n xs) (hb : ∀ g cur, B ≤ g → w.heap[g]? = some (.cells cur e (0, 0)) → w'.heap[g]? = w.heap[g]?) : w'.ownsRow B e size v n xs := by
 obtain ⟨h0, h1 | ⟨g, cap, cur, h1, h2, h3, h4⟩⟩ := h
 ·exact ⟨h0, .inl h1⟩
 ·exact ⟨h0, .inr ⟨g, cap, cur, h1, h2, (hb g cur h2 h3).trans h3, h4⟩⟩
theorem own_neQ {w : World} {B e size n : Nat} {v : Value} {xs : List Value} (h : w.ownsRow B e size v n xs) {g : Nat} {cs : Array Value} {t : TypeId} {fr : Nat × Nat} (hg : w.heap[g]? = some (.cells cs t fr)) (ht : t ≠ e) : some g ≠ v.ownBlock := by
 rintro he
 obtain ⟨_, ⟨rfl, _⟩ | ⟨g', cap, cur, rfl, _, h3, _⟩⟩ := h
 ·cases he
 ·simp [Value.ownBlock] at he
  subst he
  rw [hg] at h3
  injection h3 with h3
  injection h3 with _ h3
  exact ht h3
theorem own_lowQ {w : World} {B e size n : Nat} {v : Value} {xs : List Value} (h : w.ownsRow B e size v n xs) {g : Nat} (hg : g < B) : some g ≠ v.ownBlock := by
 rintro he
 obtain ⟨_, ⟨rfl, _⟩ | ⟨g', cap, cur, rfl, h2, _⟩⟩ := h
 ·cases he
 ·simp [Value.ownBlock] at he
  omega
theorem wp_append_strQ {w : World} {o : Oper} {a : Act} {K : Act → World → Prop} {Q : Exit → Act → World → Prop} (s x : Operand)
 (ho : o.op = .call { callee := .builtin .append, args := #[s, x], argTypes := #[27, 27] })
 (base : Nat) (v : Value) (xs : List ByteArray) (n : Nat) (hs : a.eval s = v) (hn : n = xs.length) (hown : w.ownsRow base 9 1 v n (xs.map Value.string))
 (g : Nat) (y : ByteArray) (hx : a.eval x = .slice (some ⟨g, 0, none⟩) 1 1) (hc : w.cell? ⟨g, 0, none⟩ = some (.string y))
 (hlen : n ≤ 100000000) (hbase : base ≤ w.heap.size)
 (h : ∀ sp cap w', Hid (w'.ownsRow base 9 1 (.slice sp (n + 1) cap) (n + 1) ((xs ++ [y]).map Value.string)) → Hid (w.grownBy w' v.ownBlock) → K (a.put o.dst (.slice sp (n + 1) cap)) w') : o.wp Tryz.prog a w K Q := by
 obtain ⟨i0, hi0, hz0, hz1, hz2⟩ := info_partsQ infoStrQ
 refine wp_append_own w s x _ ho base _ i0 _ 1 16 Tryz.underlying27 hi0 hz0 hz1 hz2 rfl (by decide) v n _ hs hown ⟨g, 0, none⟩ 1 1 [.string y] hx rfl ?_ (by intro u hu; simp at hu; subst hu; rfl) (by unfold maxLen; omega) (by omega) hbase ?_
 ·intro j u hj
  have hj0 : j = 0 := by have := (List.getElem?_eq_some_iff.1 hj).1; simp at this; omega
  subst hj0
  simp at hj; subst hj; rw [Addr.add_mid]; exact hc
 ·intro v' w' h1 h2 _
  obtain ⟨sp, cap, rfl⟩ := own_shapeQ h1
  exact h sp cap w' (by show World.ownsRow _ _ _ _ _ _ _; rw [List.map_append]; exact h1) h2
theorem own_strsQ {w : World} {B n cap : Nat} {sp : Option Addr} {l : List ByteArray} (h : w.ownsRow B 9 1 (.slice sp n cap) n (l.map Value.string)) : StrsIn w w.heap.size sp n l :=
 ⟨by have := h.1; simp at this; exact this, fun hn => by
  obtain ⟨hl, ⟨e, _⟩ | ⟨g, cap', cur, e, h2, h3, _, _, _, ht⟩⟩ := h
  ·injection e with _ e; omega
  ·injection e with e _ _
   refine ⟨g, 0, e, (Array.getElem?_eq_some_iff.1 h3).1, fun j hj => ?_⟩
   have hj2 : (l.map Value.string)[j]? = some (.string l[j]) := by rw [List.getElem?_map, List.getElem?_eq_getElem hj]; rfl
   rw [← ht, List.getElem?_take] at hj2
   split at hj2
   ·rw [cell_of_row w g (0 + j) cur _ _ h3, Nat.zero_add, ← hj2]; simp
   ·cases hj2⟩
structure CmT (tb g B k : Nat) (w2 : World) (v : Value) (l : List ByteArray) (row : Array Value) (w : World) : Prop where
 own : w.ownsRow B 9 1 v l.length (l.map Value.string)
 row : w.heap[g]? = some (.cells row 31 (0, 0))
 tp : Tp w tb k
 tu : Turn tb w2 w
 lt : tb < B ∧ B ≤ g ∧ B = w2.heap.size
theorem CmT.less {tb g B k k' : Nat} {w2 : World} {v : Value} {l : List ByteArray} {row : Array Value} {w : World} (h : CmT tb g B k w2 v l row w) (hk : k' ≤ k) : CmT tb g B k' w2 v l row w := ⟨h.own, h.row, h.tp.le hk, h.tu, h.lt⟩
theorem CmT.draw {tb g B k k' : Nat} {w2 : World} {v : Value} {l : List ByteArray} {row : Array Value} {w w' : World} (h : CmT tb g B k w2 v l row w) (hu : Turn tb w w') (ht : Tp w' tb k') : CmT tb g B k' w2 v l row w' :=
 ⟨own_keptQ h.own fun x cur hx hc => hu.block x (Array.getElem?_eq_some_iff.1 hc).1 (by have := h.lt.1; omega),
  (hu.block g (Array.getElem?_eq_some_iff.1 h.row).1 (by have := h.lt; omega)).trans h.row, ht, h.tu.trans hu, h.lt⟩
theorem CmT.new {tb g B k : Nat} {w2 : World} {v : Value} {l : List ByteArray} {row : Array Value} {w : World} (h : CmT tb g B k w2 v l row w) (o : Obj) : CmT tb g B k w2 v l row (w.alloc o) :=
 have hb : Below w.heap.size w (w.alloc o) := (Below.refl _ _).alloc (Nat.le_refl _) _
 h.draw (Turn.of hb) (h.tp.of hb)
theorem CmT.size {tb g B k : Nat} {w2 : World} {v : Value} {l : List ByteArray} {row : Array Value} {w : World} (h : CmT tb g B k w2 v l row w) : B ≤ w.heap.size := by rw [h.lt.2.2]; exact h.tu.size
theorem Turn.below2 {tb : Nat} {w2 w w' : World} (h : Turn tb w2 w) (hb : Below w2.heap.size w w') : Turn tb w2 w' :=
 ⟨hb.os.trans h.os, hb.tape.trans h.tape, hb.output.trans h.output, Nat.le_trans h.size hb.size, fun k hk hn => (hb.block k hk).trans (h.block k hk hn)⟩
theorem CmT.push {tb g B k : Nat} {w2 : World} {v v' : Value} {l l' : List ByteArray} {row row' : Array Value} {w w' : World} (h : CmT tb g B k w2 v l row w) (ho : w'.ownsRow B 9 1 v' l'.length (l'.map Value.string)) (hg : w.grownBy w' v.ownBlock)
 (hr : row.setIfInBounds 4 v' = row') : CmT tb g B k w2 v' l' row' (w'.setCell ⟨g, 4, none⟩ v') := by
 have hgl := (Array.getElem?_eq_some_iff.1 h.row).1
 have hrow : w'.heap[g]? = some (.cells row 31 (0, 0)) := (hg.block g hgl (own_neQ h.own h.row (by decide))).trans h.row
 have hb1 : Below B w w' := ⟨hg.os, hg.tape, hg.output, hg.size, fun x hx => hg.block x (by have := h.size; omega) (own_lowQ h.own hx)⟩
 have hb2 : Below B w (w'.setCell ⟨g, 4, none⟩ v') := hb1.setCell (p := ⟨g, 4, none⟩) h.lt.2.1 _
 refine ⟨own_keptQ ho fun x cur hx hc => heap_setCell_other _ _ _ _ ?_, ?_, h.tp.ofB hb2 h.lt.1, h.tu.below2 (by rw [← h.lt.2.2]; exact hb2), h.lt⟩
 ·rintro rfl
  rw [hrow] at hc
  injection hc with hc
  injection hc with _ hc
  exact absurd hc (by decide)
 ·rw [heap_setCell_same _ _ _ _ _ _ hrow, hr]
theorem CmT.grown {tb g B k : Nat} {w2 : World} {v : Value} {l : List ByteArray} {row : Array Value} {w w' : World} (h : CmT tb g B k w2 v l row w) (hg : w.grownBy w' v.ownBlock) : w'.heap[g]? = some (.cells row 31 (0, 0)) :=
 (hg.block g (Array.getElem?_eq_some_iff.1 h.row).1 (own_neQ h.own h.row (by decide))).trans h.row
def mdC (x1 x2 x3 : ByteArray) (r : Int) (u v : Value) (sp : Option Addr) (n cap : Nat) (sp' : Option Addr) (n' cap' : Nat) : List Value := [.string x1, .string x2, .string x3, .int .i64 r, u, v, .slice sp n cap, .slice sp' n' cap']
theorem mdC_set (x1 x2 x3 : ByteArray) (r : Int) (u u' v : Value) (sp : Option Addr) (n cap : Nat) (sp' : Option Addr) (n' cap' : Nat) : (mdC x1 x2 x3 r u v sp n cap sp' n' cap').toArray.setIfInBounds 4 u' = (mdC x1 x2 x3 r u' v sp n cap sp' n' cap').toArray := by simp [mdC]
theorem mdC_set5 (x1 x2 x3 : ByteArray) (r : Int) (u v v' : Value) (sp : Option Addr) (n cap : Nat) (sp' : Option Addr) (n' cap' : Nat) : (mdC x1 x2 x3 r u v sp n cap sp' n' cap').toArray.setIfInBounds 5 v' = (mdC x1 x2 x3 r u v' sp n cap sp' n' cap').toArray := by simp [mdC]
def cmdsL : List ByteArray := [⟨#[109, 97, 107, 101]⟩, ⟨#[45, 106]⟩, ⟨#[]⟩, ⟨#[97, 32, 98]⟩]
theorem cmdsL_len : ∀ s ∈ cmdsL, s.size ≤ 10 := by decide
theorem sliceCmd (w : World) : (Instr.buildSlice 27 4 #[(0, .string ⟨#[109, 97, 107, 101]⟩), (1, .string ⟨#[45, 106]⟩), (2, .string ⟨#[]⟩), (3, .string ⟨#[97, 32, 98]⟩)]).run Tryz.prog w = .ok (.slice (some ⟨w.heap.size, 0, none⟩) 4 4) (w.alloc (.cells (cmdsL.map Value.string).toArray 9)) := by kernel_rfl
theorem sliceS1 (s : ByteArray) (w : World) : (Instr.buildSlice 27 1 #[(0, .string s)]).run Tryz.prog w = .ok (.slice (some ⟨w.heap.size, 0, none⟩) 1 1) (w.alloc (.cells #[.string s] 9)) := by kernel_rfl
def noByte (cs : Array Value) : Bool := cs.toList.all fun v => match v with | .int .u8 _ => false | _ => true
theorem range_setQ {w : World} {g : Nat} {cs ds : Array Value} {t : TypeId} {b o : Nat} {L : List Value} (hg : w.heap[g]? = some (.cells cs t (0, 0))) (hn : noByte cs = true) (hL : ∃ (j : Nat) (m : Int), L[j]? = some (.int .u8 m)) (h : w.rangeAt b o L) : (w.setRow g ds).rangeAt b o L := by
 have hne : b ≠ g := by
  rintro rfl
  obtain ⟨j, m, e⟩ := hL
  have h1 := h j _ e
  rw [cell_of_row w b (o + j) cs t (0, 0) hg] at h1
  have h2 : Value.int .u8 m ∈ cs.toList := by
   obtain ⟨hlt, he⟩ := Array.getElem?_eq_some_iff.1 h1
   rw [← he]; exact Array.getElem_mem_toList hlt
  exact absurd (List.all_eq_true.1 hn _ h2) (by simp)
 intro j v hv
 exact (World.cell?_of_block (w := w) (setRow_other _ _ _ _ hne)).trans (h j v hv)
theorem EnsIn.setQ {w : World} {g B : Nat} {cs ds : Array Value} {t : TypeId} {sp : Option Addr} {n cap : Nat} {l : List En} (hg : w.heap[g]? = some (.cells cs t (0, 0))) (hn : noByte cs = true) (h : EnsIn w B sp n cap l) : EnsIn (w.setRow g ds) B sp n cap l :=
 ⟨h.len, h.ok, fun hp => by
  obtain ⟨b, off, e, hlt, hc, hr⟩ := h.cells hp
  refine ⟨b, off, e, hlt, hc, fun i x hi => range_setQ hg hn ?_ (hr i x hi)⟩
  have hok := h.ok x (List.mem_of_getElem? hi)
  obtain ⟨a, r, hd⟩ : ∃ a r, x.d = a :: r := by
   cases hx : x.d with
   | nil => exact absurd (show x.d.length = 32 from hok.1) (by rw [hx]; decide)
   | cons a r => exact ⟨a, r, rfl⟩
  exact ⟨1, a, by unfold enL; rw [hd]; rfl⟩⟩
theorem wpList_slice_eqQ {P : Program} {w : World} {ops : Array Oper} {rest : List Oper} {o : Oper} {a : Act} {Q : Exit → Act → World → Prop} (hgd : o.guard = none) (t : TypeId) (n : Nat) (parts : List (Nat × Operand)) (ho : o.op = .buildSlice t n parts.toArray)
 (vs : List (Nat × Value)) (hv : (parts.map fun (i, x) => (i, a.eval x)) = vs) (v : Value) (w' : World) (hrun : (Instr.buildSlice t n vs.toArray).run P w = .ok v w') (h : wpList P ops Q rest (a.put o.dst v) w') : wpList P ops Q (o :: rest) a w :=
 wpList_plain hgd fun _ hK => by
  unfold Oper.wp execOp
  simp only [ho, Sem.run_bind, List.map_toArray, hv, hrun, Result.andThen_ok]
  exact hK _ _ h
theorem CmT.put {tb g B k : Nat} {w2 : World} {v : Value} {l : List ByteArray} {row row' : Array Value} {w : World} (h : CmT tb g B k w2 v l row w) (i : Nat) (u : Value) (hr : row.setIfInBounds i u = row') : CmT tb g B k w2 v l row' (w.setCell ⟨g, i, none⟩ u) := by
 have hb2 : Below B w (w.setCell ⟨g, i, none⟩ u) := (Below.refl B w).setCell (p := ⟨g, i, none⟩) h.lt.2.1 _
 refine ⟨own_keptQ h.own fun x cur hx hc => heap_setCell_other _ _ _ _ ?_, ?_, h.tp.ofB hb2 h.lt.1, h.tu.below2 (by rw [← h.lt.2.2]; exact hb2), h.lt⟩
 ·rintro rfl
  rw [h.row] at hc
  injection hc with hc
  injection hc with _ hc
  exact absurd hc (by decide)
 ·rw [heap_setCell_same _ _ _ _ _ _ h.row, hr]
def ccB : ByteArray := ⟨#[99, 99]⟩
def paB : ByteArray := ⟨#[112, 97, 116, 104]⟩
def xxB : ByteArray := ⟨#[120]⟩
def gccL : List ByteArray := [⟨#[]⟩, ⟨#[103, 99, 99, 32, 49, 37]⟩]
theorem gccL_len : ∀ s ∈ gccL, s.size ≤ 10 := by decide
def envQ (s : ByteArray) : List Value := [.string ccB, .string s, .string paB, .string xxB]
theorem buildV1 (s : ByteArray) (w : World) : (Instr.build 61 #[(0, .string ccB), (1, .string s)]).run Tryz.prog w = .ok (.agg #[.string ccB, .string s]) w := by kernel_rfl
theorem buildV2 (w : World) : (Instr.build 61 #[(0, .string paB), (1, .string xxB)]).run Tryz.prog w = .ok (.agg #[.string paB, .string xxB]) w := by kernel_rfl
theorem sliceV2 (s : ByteArray) (w : World) : (Instr.buildSlice 28 2 #[(0, .agg #[.string ccB, .string s]), (1, .agg #[.string paB, .string xxB])]).run Tryz.prog w = .ok (.slice (some ⟨w.heap.size, 0, none⟩) 2 2) (w.alloc (.cells (envQ s).toArray 61)) := by kernel_rfl
def EnvT (B : Nat) (v1 : Option Addr) (vn vc : Nat) (vl : List Vr) (w : World) : Prop :=
 (v1 = none ∧ vn = 0 ∧ vc = 0 ∧ vl = []) ∨ ∃ ge s, s ∈ gccL ∧ v1 = some ⟨ge, 0, none⟩ ∧ vn = 2 ∧ vc = 2 ∧ vl = [⟨ccB, s⟩, ⟨paB, xxB⟩] ∧ B ≤ ge ∧ w.heap[ge]? = some (.cells (envQ s).toArray 61 (0, 0))
theorem EnvT.kept {B vn vc : Nat} {v1 : Option Addr} {vl : List Vr} {w w' : World} (h : EnvT B v1 vn vc vl w) (hk : ∀ g cur, B ≤ g → w.heap[g]? = some (.cells cur 61 (0, 0)) → w'.heap[g]? = w.heap[g]?) : EnvT B v1 vn vc vl w' := by
 rcases h with h | ⟨ge, s, h1, h2, h3, h4, h5, h6, h7⟩
 ·exact .inl h
 ·exact .inr ⟨ge, s, h1, h2, h3, h4, h5, h6, (hk ge _ h6 h7).trans h7⟩
theorem EnvT.vrs {B vn vc : Nat} {v1 : Option Addr} {vl : List Vr} {w : World} (h : EnvT B v1 vn vc vl w) : VrsIn w w.heap.size v1 vn vc vl := by
 rcases h with ⟨rfl, rfl, rfl, rfl⟩ | ⟨ge, s, h1, rfl, rfl, rfl, rfl, h6, h7⟩
 ·exact ⟨rfl, fun h => absurd h (by decide)⟩
 ·refine ⟨rfl, fun _ => ⟨ge, 0, rfl, (Array.getElem?_eq_some_iff.1 h7).1, Nat.le_refl _, fun i x hx => ?_⟩⟩
  have hc : ∀ j v, (envQ s)[j]? = some v → w.cell? ⟨ge, j, none⟩ = some v := fun j v hv => heap_cellR h7 hv
  match i, hx with
  | 0, hx =>
    injection hx with hx; subst hx
    intro j v hv
    match j, hv with
    | 0, hv => exact hc 0 _ hv
    | 1, hv => exact hc 1 _ hv
  | 1, hx =>
    injection hx with hx; subst hx
    intro j v hv
    match j, hv with
    | 0, hv => exact hc 2 _ hv
    | 1, hv => exact hc 3 _ hv
theorem EnvT.small {B vn vc : Nat} {v1 : Option Addr} {vl : List Vr} {w : World} (h : EnvT B v1 vn vc vl w) : vn ≤ 2 ∧ ∀ y ∈ vl, y.n.size ≤ 4 ∧ y.v.size ≤ 10 := by
 rcases h with ⟨rfl, rfl, rfl, rfl⟩ | ⟨ge, s, h1, rfl, rfl, rfl, rfl, h6, h7⟩
 ·exact ⟨by decide, by simp⟩
 ·refine ⟨by decide, fun y hy => ?_⟩
  simp at hy
  rcases hy with rfl | rfl
  ·exact ⟨show ccB.size ≤ 4 by decide, gccL_len s h1⟩
  ·exact ⟨by decide, by decide⟩
end Go.Proofs.YtecllfbadciaoaaGreatDoor
