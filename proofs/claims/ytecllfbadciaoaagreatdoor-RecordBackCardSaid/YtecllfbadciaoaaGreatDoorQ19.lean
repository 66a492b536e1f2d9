/-
  The walk of record.readLines (conditions: the lines stand in memory; no line is empty, none has more than 1000 words, no word is longer than 100000 bytes; at most 1000 lines).
-/
import Derived.Test.YtecllfbadciaoaaGreatDoorZip
import Derived.Test.YtecllfbadciaoaaGreatDoorQ18
set_option maxRecDepth 100000
set_option maxHeartbeats 8000000
namespace Go.Proofs.YtecllfbadciaoaaGreatDoor
open Go.RowKit
theorem takeF_any (tag : ByteArray) (gl B : Nat) (sp : Option Addr) (n cap : Nat) (ls : List Ln) (w : World) (hbox : w.cell? ⟨gl, 0, none⟩ = some (.slice sp n cap)) (hfz : w.frozen? ⟨gl, 0, none⟩ = false) (hl : LinesIn w B sp n ls) (hne : ∀ q ∈ ls, q.l ≠ []) (hcap : n ≤ cap) (hmax : n ≤ 100000) :
 Calls Tryz.prog 62 #[.string tag, .pointer (some ⟨gl, 0, none⟩)] w fun e w' => ∃ k sp' cap', k ≤ n ∧ e = .returned (.slice sp k cap) ∧ w' = w.setCell ⟨gl, 0, none⟩ (.slice sp' (n - k) cap') ∧ LinesIn w B sp k (ls.take k) ∧ LinesIn w B sp' (n - k) (ls.drop k) ∧ n - k ≤ cap' ∧
  wordsOf (ls.take k) = (wordsOf ls).takeWhile (hdT tag) ∧ wordsOf (ls.drop k) = (wordsOf ls).dropWhile (hdT tag) := by
 refine (take_any tag gl B sp n cap ls w hbox hfz hl hne hcap hmax).mono ?_
 rintro e w' ⟨k, hk, h1, h2, rfl, rfl⟩
 obtain ⟨e1, e2⟩ := while_of (fun q : Ln => hdT tag q.l) ls k (by rw [hl.len]; exact hk) h1 h2
 refine ⟨k, _, _, hk, rfl, rfl, hl.till hk, hl.from hk hcap, by omega, ?_, ?_⟩
 ·rw [← e1]; unfold wordsOf; rw [List.takeWhile_map]; rfl
 ·rw [← e2]; unfold wordsOf; rw [List.dropWhile_map]; rfl
structure LfB (g2 g3 gd B : Nat) (sp : Option Addr) (n cap : Nat) (ls : List Ln) (w : World) : Prop where
 box : w.heap[g3]? = some (.cells #[.slice sp n cap] 59 (0, 0))
 res : ∃ x m v, w.heap[g2]? = some (.cells (drL x m v).toArray 70 (0, 0))
 li : LinesIn w B sp n ls
 cap : n ≤ cap
 ne : g3 ≠ gd
 ne2 : g2 ≠ gd ∧ g2 ≠ g3
 b3 : B ≤ g3
 b2 : B ≤ g2
theorem LfB.cell {g2 g3 gd B : Nat} {sp : Option Addr} {n cap : Nat} {ls : List Ln} {w : World} (h : LfB g2 g3 gd B sp n cap ls w) : w.cell? ⟨g3, 0, none⟩ = some (.slice sp n cap) ∧ w.frozen? ⟨g3, 0, none⟩ = false :=
 ⟨by rw [cell_of_row w g3 0 _ _ _ h.box]; rfl, frozen_of_row _ _ _ _ _ h.box⟩
theorem LfB.nle {g2 g3 gd B : Nat} {sp : Option Addr} {n cap : Nat} {ls ls0 : List Ln} {w : World} (h : LfB g2 g3 gd B sp n cap ls w) {N : Nat} (hN : ls0.length ≤ N) (hl : ls.length ≤ ls0.length) : n ≤ N := by rw [← h.li.len]; omega
theorem LfB.take {g2 g3 gd B : Nat} {sp : Option Addr} {n cap : Nat} {ls : List Ln} {w : World} (h : LfB g2 g3 gd B sp n cap ls w) (sp' : Option Addr) (n' cap' : Nat) (ls' : List Ln) (hl : LinesIn w B sp' n' ls') (hc : n' ≤ cap') : LfB g2 g3 gd B sp' n' cap' ls' (w.setCell ⟨g3, 0, none⟩ (.slice sp' n' cap')) := by
 obtain ⟨x, m, v, hr⟩ := h.res
 exact ⟨by rw [heap_setCell_same _ _ _ _ _ _ h.box]; rfl, ⟨x, m, v, (heap_setCell_other _ _ _ _ h.ne2.2).trans hr⟩, hl.below ((Below.refl B w).setCell (p := ⟨g3, 0, none⟩) h.b3 _) (Nat.le_refl _), hc, h.ne, h.ne2, h.b3, h.b2⟩
theorem LfB.frm {g2 g3 gd B : Nat} {sp : Option Addr} {n cap : Nat} {ls : List Ln} {w w' : World} (h : LfB g2 g3 gd B sp n cap ls w) (hf : Frm gd B w w') : LfB g2 g3 gd B sp n cap ls w' := by
 obtain ⟨x, m, v, hr⟩ := h.res
 exact ⟨(hf.k _ _ _ _ h.box h.ne (by decide)).trans h.box, ⟨x, m, v, (hf.k _ _ _ _ hr h.ne2.1 (by decide)).trans hr⟩, h.li.below hf.b (Nat.le_refl _), h.cap, h.ne, h.ne2, h.b3, h.b2⟩
theorem LfB.turn {g2 g3 gd B : Nat} {sp : Option Addr} {n cap : Nat} {ls : List Ln} {w w' : World} (h : LfB g2 g3 gd B sp n cap ls w) (ht : Turn gd w w') (hB : B ≤ gd) (hg : gd < w.heap.size) : LfB g2 g3 gd B sp n cap ls w' := h.frm (Frm.turn ht hB hg)
theorem own_setOther {w : World} {g j B e size n : Nat} {u v : Value} {xs : List Value} {cs : Array Value} {t : TypeId} (h : w.ownsRow B e size v n xs) (hg : w.heap[g]? = some (.cells cs t (0, 0))) (he : e ≠ t) : (w.setCell ⟨g, j, none⟩ u).ownsRow B e size v n xs :=
 own_keptQ h fun k cur _ hc => heap_setCell_other _ _ _ _ (by
  rintro rfl
  rw [hg] at hc
  injection hc with hc
  injection hc with _ hc _
  exact he hc.symm)
theorem DrB.other {gd B g3 : Nat} {x : Rc} {m v : Bool} {w : World} (h : DrB gd B x m v w) {cs : Array Value} (hb : w.heap[g3]? = some (.cells cs 59 (0, 0))) (hne : g3 ≠ gd) (hB : B ≤ g3) {u : Value} : DrB gd B x m v (w.setCell ⟨g3, 0, none⟩ u) :=
 ⟨(heap_setCell_other _ _ _ _ (Ne.symm hne)).trans h.row, h.lo, h.c.below ((Below.refl B w).setCell (p := ⟨g3, 0, none⟩) hB _) (Nat.le_refl _), ⟨own_setOther h.v.1 hb (by decide), h.v.2⟩, ⟨⟨own_setOther h.m.1.1 hb (by decide), h.m.1.2⟩, h.m.2⟩, ⟨⟨own_setOther h.p.1.1 hb (by decide), h.p.1.2⟩, h.p.2⟩⟩
def okT (L : List (List ByteArray)) : Bool := decide (L.length = 1) && okH (L.getD 0 [])
def hdP (p : Rp) (q : List ByteArray) : Rp := { p with run := q.getD 1 ByteArray.empty, scp := q.getD 2 ByteArray.empty, stp := q.getD 3 ByteArray.empty, t := pnv (q.getD 4 ByteArray.empty).data.toList }
theorem head_plain {ls : List Ln} {m1 : Bool} {x x1 : Rc} (h : (m1 = true ∧ ¬ ∃ q, ls = [q] ∧ okH q.l = true ∧ false = false) ∨ (m1 = false ∧ ∃ q, ls = [q] ∧ okH q.l = true ∧ x1 = hdR x q.l)) :
 m1 = !okT (wordsOf ls) ∧ (m1 = false → x1.pl = hdP x.pl ((wordsOf ls).getD 0 [])) := by
 rcases h with ⟨rfl, hn⟩ | ⟨rfl, q, rfl, hk, rfl⟩
 ·refine ⟨?_, fun h => by cases h⟩
  cases ho : okT (wordsOf ls) with
  | false => rfl
  | true =>
    refine absurd ?_ hn
    unfold okT at ho
    rw [Bool.and_eq_true, decide_eq_true_eq] at ho
    match ls, ho with
    | [q], ho => exact ⟨q, rfl, ho.2, rfl⟩
 ·refine ⟨?_, fun _ => rfl⟩
  unfold okT
  simp [wordsOf, hk]
def R1 (L : List (List ByteArray)) := L.dropWhile (hdT recW)
def R2 (L : List (List ByteArray)) := (R1 L).dropWhile (hdT cmdW)
def R3 (L : List (List ByteArray)) := (R2 L).dropWhile (hdT envW)
def R4 (L : List (List ByteArray)) := (R3 L).dropWhile (hdT matW)
def R5 (L : List (List ByteArray)) := (R4 L).dropWhile (hdT prdW)
def T1 (L : List (List ByteArray)) := L.takeWhile (hdT recW)
def T2 (L : List (List ByteArray)) := (R1 L).takeWhile (hdT cmdW)
def T3 (L : List (List ByteArray)) := (R2 L).takeWhile (hdT envW)
def T4 (L : List (List ByteArray)) := (R3 L).takeWhile (hdT matW)
def T5 (L : List (List ByteArray)) := (R4 L).takeWhile (hdT prdW)
def formedR (L : List (List ByteArray)) : Bool := okT (T1 L) && (decide ((T2 L).length = 1) && ((T3 L).all len3 && ((rawL matW (T4 L)).isSome && ((rawL prdW (T5 L)).isSome && decide ((R5 L).length = 0)))))
def zP : Rp := ⟨⟨#[]⟩, ⟨#[]⟩, ⟨#[]⟩, 0, [], [], [], []⟩
def recP (L : List (List ByteArray)) : Rp :=
 { hdP zP ((T1 L).getD 0 []) with c := ((T2 L).getD 0 []).drop 1, v := (T3 L).map vrOf, m := (rawL matW (T4 L)).getD [], p := (rawL prdW (T5 L)).getD [] }
def zX : Rc := ⟨⟨#[]⟩, ⟨#[]⟩, ⟨#[]⟩, 0, none, 0, 0, [], none, 0, 0, [], none, 0, 0, [], none, 0, 0, []⟩
def RdlAns (ls : List Ln) (L : List (List ByteArray)) (w : World) (e : Ending) (w' : World) : Prop := ∃ x m v, e = .returned (.agg (drL x m v).toArray) ∧ Hid ((StrsIn w' w'.heap.size x.c1 x.cn x.c ∧ (x.c1 = none ∨ ∃ q ∈ ls, x.c1 = slZ q.sp 1 1 q.cap)) ∧ (w'.ownsRow w.heap.size 61 2 (.slice x.v1 x.vn x.vc) x.vn (x.v.flatMap vrL) ∧ x.v.length = x.vn) ∧ (OwnE w' w.heap.size (.slice x.m1 x.mn x.mc) x.m ∧ x.m.length = x.mn) ∧ (OwnE w' w.heap.size (.slice x.p1 x.pn x.pc) x.p ∧ x.p.length = x.pn)) ∧
 m = !formedR L ∧ Hid (m = false → (v = false → x.pl = recP L) ∧ (v = true → (vldE (recP L).m && vldE (recP L).p) = false)) ∧ Below w.heap.size w w'
theorem rowsV_in {w : World} {B : Nat} {sp : Option Addr} {n cap : Nat} {l : List Vr} (h : w.ownsRow B 61 2 (.slice sp n cap) n (l.flatMap vrL)) (hl : l.length = n) : VrsIn w w.heap.size sp n cap l := by
 refine ⟨hl, fun h0 => ?_⟩
 subst hl
 have h1 := h
 obtain ⟨_, ⟨e, e0⟩ | ⟨g, cap', cur, e, _⟩⟩ := h
 ·omega
 ·injection e with e1 e2 e3
  subst e1
  obtain ⟨hg, hc, hr⟩ := own_rangeG (f := vrL) h1 (fun x _ => rfl) rfl
  exact ⟨g, 0, rfl, hg, hc, hr⟩
theorem rdl_plain {L : List (List ByteArray)} {x1 x2 x3 x5 : Rc} {m1 m2 m3 m4 m5 m6 v4 v5 : Bool} {lm lp : List En}
 (h1 : m1 = !okT (T1 L)) (p1 : m1 = false → x1.pl = hdP zX.pl ((T1 L).getD 0 [])) (h2 : m2 = (m1 || !decide ((T2 L).length = 1))) (p2 : m2 = false → x2.pl = { x1.pl with c := ((T2 L).getD 0 []).drop 1 })
 (h3 : m3 = (m2 || !(T3 L).all len3)) (p3 : m3 = false → x3.pl = { x2.pl with v := x2.pl.v ++ (T3 L).map vrOf })
 (h4 : m4 = (m3 || !(rawL matW (T4 L)).isSome)) (r4 : ∀ l0, rawL matW (T4 L) = some l0 → (vldE l0 = true → lm = l0 ∧ v4 = false) ∧ (vldE l0 = false → v4 = true))
 (h5 : m5 = (m4 || !(rawL prdW (T5 L)).isSome)) (r5 : ∀ l0, rawL prdW (T5 L) = some l0 → (vldE l0 = true → lp = l0 ∧ v5 = v4) ∧ (vldE l0 = false → v5 = true))
 (h6 : m6 = (m5 || !decide ((R5 L).length = 0))) (px : x5.pl = { x3.pl with m := lm, p := lp }) :
 m6 = !formedR L ∧ (m6 = false → (v5 = false → x5.pl = recP L) ∧ (v5 = true → (vldE (recP L).m && vldE (recP L).p) = false)) := by
 have hf : m6 = !formedR L := by
  unfold formedR
  rw [h6, h5, h4, h3, h2, h1]
  cases okT (T1 L) <;> cases decide ((T2 L).length = 1) <;> cases (T3 L).all len3 <;> cases (rawL matW (T4 L)).isSome <;> cases (rawL prdW (T5 L)).isSome <;> cases decide ((R5 L).length = 0) <;> rfl
 refine ⟨hf, fun h => ?_⟩
 rw [h] at h6
 have e6 := (Bool.or_eq_false_iff.1 h6.symm).1
 rw [e6] at h5
 have e5 := Bool.or_eq_false_iff.1 h5.symm
 rw [e5.1] at h4
 have e4 := Bool.or_eq_false_iff.1 h4.symm
 rw [e4.1] at h3
 have e3 := Bool.or_eq_false_iff.1 h3.symm
 rw [e3.1] at h2
 have e2 := Bool.or_eq_false_iff.1 h2.symm
 have q1 := p1 e2.1
 have q2 := p2 e3.1
 have q3 := p3 e4.1
 obtain ⟨l0, hl0⟩ : ∃ l0, rawL matW (T4 L) = some l0 := by
  cases hq : rawL matW (T4 L) with
  | none => rw [hq] at e4; simp at e4
  | some l => exact ⟨l, rfl⟩
 obtain ⟨l1, hl1⟩ : ∃ l1, rawL prdW (T5 L) = some l1 := by
  cases hq : rawL prdW (T5 L) with
  | none => rw [hq] at e5; simp at e5
  | some l => exact ⟨l, rfl⟩
 have hm : (recP L).m = l0 := by unfold recP; rw [hl0]; rfl
 have hp : (recP L).p = l1 := by unfold recP; rw [hl1]; rfl
 obtain ⟨a1, a2⟩ := r4 l0 hl0
 obtain ⟨b1, b2⟩ := r5 l1 hl1
 constructor
 ·intro hv
  have k1 : vldE l1 = true := by
   cases hk : vldE l1 with
   | true => rfl
   | false => rw [b2 hk] at hv; cases hv
  have k0 : vldE l0 = true := by
   cases hk : vldE l0 with
   | true => rfl
   | false => rw [(b1 k1).2, a2 hk] at hv; cases hv
  rw [px, q3, q2, q1, (a1 k0).1, (b1 k1).1]
  unfold recP
  rw [hl0, hl1]
  rfl
 ·intro hv
  rw [hm, hp]
  cases hk1 : vldE l1 with
  | false => simp
  | true =>
    cases hk0 : vldE l0 with
    | false => simp
    | true => rw [(b1 hk1).2, (a1 hk0).2] at hv; cases hv
theorem readLinesR_any (sp0 : Option Addr) (n0 cap0 : Nat) (ls : List Ln) (w : World) (hl : LinesIn w w.heap.size sp0 n0 ls) (hcap : n0 ≤ cap0) (hlen : ls.length ≤ 1000) (hne : ∀ q ∈ ls, q.l ≠ []) (hq : ∀ q ∈ ls, q.n ≤ q.cap ∧ q.n ≤ 1000) (hsz : ∀ q ∈ ls, ∀ s ∈ q.l, s.size ≤ 100000) :
 Calls Tryz.prog 30 #[.slice sp0 n0 cap0] w (RdlAns ls (wordsOf ls) w) := by
 have HL := zh hl; have HCP := zh hcap; have HLN := zh hlen; have HNE := zh hne; have HQ := zh hq; have HSZ := zh hsz
 clear hl hcap hlen hne hq hsz
 go_enter Tryz.func30, Tryz.ntmps30
 go_upto_region 1 with fail
 generalize hwa : World.alloc w _ = wa
 have HRA : Hid (wa.heap[w.heap.size]? = some (.cells (drL zX false false).toArray 70 (0, 0))) := by rw [← hwa]; exact heap_alloc_new _ _
 have HBA : Hid (Below w.heap.size w wa) := by rw [← hwa]; exact (Below.refl _ _).alloc (Nat.le_refl _) _
 have HSA : Hid (w.heap.size < wa.heap.size) := (Array.getElem?_eq_some_iff.1 HRA.out).1
 clear hwa
 have HR3' : Hid ((wa.alloc (.cells #[.slice sp0 n0 cap0] 59)).heap[wa.heap.size]? = some (.cells #[.slice sp0 n0 cap0] 59 (0, 0))) := heap_alloc_new _ _
 have HBB : Hid (Below wa.heap.size wa (wa.alloc (.cells #[.slice sp0 n0 cap0] 59))) := (Below.refl _ _).alloc (Nat.le_refl _) _
 have HRB := zh (heap_alloc_new wa (.cells #[.slice none 0 0] 59))
 have cS : (wa.alloc (.cells #[.slice none 0 0] 59)).cell? ⟨wa.heap.size, 0, none⟩ = some (.slice none 0 0) := by rw [cell_of_row _ _ 0 _ _ _ HRB.out]; rfl
 have fS : (wa.alloc (.cells #[.slice none 0 0] 59)).frozen? ⟨wa.heap.size, 0, none⟩ = false := frozen_of_row _ _ _ _ _ HRB.out
 go_upto_region 2 with fail
 clear cS fS HRB
 have HR2' : Hid ((wa.alloc (.cells #[.slice sp0 n0 cap0] 59)).heap[w.heap.size]? = some (.cells (drL zX false false).toArray 70 (0, 0))) := (HBB.out.block _ HSA.out).trans HRA.out
 have HB1' : Hid (Below w.heap.size w (wa.alloc (.cells #[.slice sp0 n0 cap0] 59))) := HBA.out.trans (HBB.out.mono HBA.out.size)
 generalize World.alloc wa (.cells #[.slice sp0 n0 cap0] 59) = w1 at *
 have HG3 : Hid (w.heap.size < wa.heap.size ∧ wa.heap.size < w1.heap.size) := ⟨HSA.out, (Array.getElem?_eq_some_iff.1 HR3'.out).1⟩
 generalize wa.heap.size = g3 at *
 clear HRA HBA HSA HBB
 go_upto_region 4 with fail
 generalize hw2 : World.alloc w1 _ = w2
 have hrd : w2.heap[w1.heap.size]? = some (.cells (drL zX false false).toArray 70 (0, 0)) := by rw [← hw2]; exact heap_alloc_new _ _
 have hb12 : Below w1.heap.size w1 w2 := by rw [← hw2]; exact (Below.refl _ _).alloc (Nat.le_refl _) _
 have HGD : Hid (g3 < w1.heap.size) := HG3.out.2
 have HR3 : Hid (w2.heap[g3]? = some (.cells #[.slice sp0 n0 cap0] 59 (0, 0))) := (hb12.block _ HG3.out.2).trans HR3'.out
 have HR2 : Hid (w2.heap[w.heap.size]? = some (.cells (drL zX false false).toArray 70 (0, 0))) := (hb12.block _ (Nat.lt_trans HG3.out.1 HG3.out.2)).trans HR2'.out
 have HB0 : Hid (Below w.heap.size w w2) := HB1'.out.trans (hb12.mono (Nat.le_of_lt (Nat.lt_trans HG3.out.1 HG3.out.2)))
 have HD0 : Hid (DrB w1.heap.size w.heap.size zX false false w2) := ⟨hrd, Nat.le_of_lt (Nat.lt_trans HG3.out.1 HG3.out.2), ⟨rfl, fun h => absurd h (by show ¬ (0 < 0); omega)⟩, ⟨World.ownsRow_nil _ _ _ _, rfl⟩, ⟨⟨World.ownsRow_nil _ _ _ _, by show ∀ x ∈ ([] : List En), _; simp⟩, rfl⟩, ⟨⟨World.ownsRow_nil _ _ _ _, by show ∀ x ∈ ([] : List En), _; simp⟩, rfl⟩⟩
 have LF0 : Hid (LfB w.heap.size g3 w1.heap.size w.heap.size sp0 n0 cap0 ls w2) := ⟨HR3.out, ⟨_, _, _, HR2.out⟩, HL.out.below HB0.out (Nat.le_refl _), HCP.out, by have := HG3.out.2; omega, ⟨by have := HG3.out; omega, by have := HG3.out; omega⟩, by have := HG3.out.1; omega, Nat.le_refl _⟩
 clear hw2 hrd hb12 HR3 HR2 HR3' HR2' HB1' HG3 HGD HL HCP
 generalize w1.heap.size = gd at *
 clear w1 wa
 obtain ⟨B, hB⟩ : ∃ B, B = w.heap.size := ⟨_, rfl⟩
 obtain ⟨g2, hg2⟩ : ∃ g2, g2 = w.heap.size := ⟨_, rfl⟩
 have LF0' : Hid (LfB g2 g3 gd B sp0 n0 cap0 ls w2) := by rw [hg2, hB]; exact LF0.out
 rw [← hB] at HD0 HB0
 rw [← hg2]
 clear LF0 hg2
 have HBE := zh hB
 clear hB
 have LF0 := zh LF0'.out
 clear LF0'
 have LS0 : Hid (∀ q ∈ ls, q ∈ ls) := fun q hq => hq
 have LSL0 : Hid (ls.length ≤ ls.length) := Nat.le_refl _
 obtain ⟨L, hL⟩ : ∃ L, L = wordsOf ls := ⟨_, rfl⟩
 have EB0 : Hid (wordsOf ls = L) := hL.symm
 have HLW := zh hL
 clear hL
 have HTK0 := zh (takeF_any recW g3 B sp0 n0 cap0 ls w2 LF0.out.cell.1 LF0.out.cell.2 LF0.out.li (fun q hq => HNE.out q (LS0.out q hq)) LF0.out.cap (by have := LF0.out.nle HLN.out LSL0.out; omega))
 go_wp2_with fail
 refine HTK0.out.mono ?_
 rintro e wt ⟨k, sp1, cap1, hk, rfl, rfl, hl1, hl2, hc2, e1, e2⟩
 have LF0t := zh (LF0.out.take sp1 (n0 - k) cap1 (ls.drop k) hl2 hc2)
 have HD0t := zh (HD0.out.other LF0.out.box LF0.out.ne LF0.out.b3 (u := .slice sp1 (n0 - k) cap1))
 have HL0t : Hid (LinesIn (w2.setCell ⟨g3, 0, none⟩ (.slice sp1 (n0 - k) cap1)) B sp0 k (ls.take k)) := hl1.below ((Below.refl B w2).setCell (p := ⟨g3, 0, none⟩) LF0.out.b3 _) (Nat.le_refl _)
 have HBt0 : Hid (Below B w (w2.setCell ⟨g3, 0, none⟩ (.slice sp1 (n0 - k) cap1))) := HB0.out.setCell (p := ⟨g3, 0, none⟩) LF0.out.b3 _
 have LS1 : Hid (∀ q ∈ ls.drop k, q ∈ ls) := fun q hq => LS0.out q (List.mem_of_mem_drop hq)
 have LT0 : Hid (∀ q ∈ ls.take k, q ∈ ls) := fun q hq => LS0.out q (List.mem_of_mem_take hq)
 have LSL1 : Hid ((ls.drop k).length ≤ ls.length) := by show _ ≤ _; rw [List.length_drop]; have := LSL0.out; omega
 have EA0 := zh (e1.trans (congrArg (List.takeWhile (hdT recW)) EB0.out))
 have EB1 := zh (e2.trans (congrArg (List.dropWhile (hdT recW)) EB0.out))
 have HK0 : Hid (k ≤ 1000 ∧ (ls.take k).length = k) := ⟨by have := LF0.out.nle HLN.out LSL0.out; omega, hl1.len⟩
 generalize hls : ls.drop k = ls1 at *
 generalize hn : n0 - k = n1 at *
 generalize hts : ls.take k = ts0 at *
 clear hk hl1 hl2 hc2 e1 e2 HTK0 hls hn hts LF0 HD0 HB0 LS0 LSL0 EB0
 generalize World.setCell w2 ⟨g3, 0, none⟩ _ = v0 at *
 go_wp2_with fail
 refine (readHead_any gd B zX false false sp0 k cap0 ts0 v0 HD0t.out HL0t.out (fun q hq => HSZ.out q (LT0.out q hq))).mono ?_
 rintro e w3 ⟨rfl, ht, x1, m1, hd, hvn, hor⟩
 obtain ⟨hm1, hp1⟩ := head_plain hor
 rw [EA0.out] at hm1 hp1
 have HM1 := zh hm1; have HP1 := zh hp1; have HD1 := zh hd
 have HV1 : Hid (x1.vn = 0 ∧ x1.c1 = none) := ⟨hvn.1.trans rfl, hvn.2.trans rfl⟩
 clear hor hm1 hp1 hd hvn HK0 EA0
 have LF1 := zh (LF0t.out.turn ht HD0t.out.lo HD0t.out.lt)
 have HB1 : Hid (Below B w w3) := HBt0.out.trans (ht.below HD0t.out.lo HD0t.out.lt)
 clear ht LF0t HD0t HL0t HBt0 LT0
 have HTK1 := zh (takeF_any cmdW g3 B sp1 n1 cap1 ls1 w3 LF1.out.cell.1 LF1.out.cell.2 LF1.out.li (fun q hq => HNE.out q (LS1.out q hq)) LF1.out.cap (by have := LF1.out.nle HLN.out LSL1.out; omega))
 go_wp2_with fail
 refine HTK1.out.mono ?_
 rintro e wt ⟨k, sp2, cap2, hk, rfl, rfl, hl1, hl2, hc2, e1, e2⟩
 have LF1t := zh (LF1.out.take sp2 (n1 - k) cap2 (ls1.drop k) hl2 hc2)
 have HD1t := zh (HD1.out.other LF1.out.box LF1.out.ne LF1.out.b3 (u := .slice sp2 (n1 - k) cap2))
 have HL1t : Hid (LinesIn (w3.setCell ⟨g3, 0, none⟩ (.slice sp2 (n1 - k) cap2)) B sp1 k (ls1.take k)) := hl1.below ((Below.refl B w3).setCell (p := ⟨g3, 0, none⟩) LF1.out.b3 _) (Nat.le_refl _)
 have HBt1 : Hid (Below B w (w3.setCell ⟨g3, 0, none⟩ (.slice sp2 (n1 - k) cap2))) := HB1.out.setCell (p := ⟨g3, 0, none⟩) LF1.out.b3 _
 have LS2 : Hid (∀ q ∈ ls1.drop k, q ∈ ls) := fun q hq => LS1.out q (List.mem_of_mem_drop hq)
 have LT1 : Hid (∀ q ∈ ls1.take k, q ∈ ls) := fun q hq => LS1.out q (List.mem_of_mem_take hq)
 have LSL2 : Hid ((ls1.drop k).length ≤ ls.length) := by show _ ≤ _; rw [List.length_drop]; have := LSL1.out; omega
 have EA1 := zh (e1.trans (congrArg (List.takeWhile (hdT cmdW)) EB1.out))
 have EB2 := zh (e2.trans (congrArg (List.dropWhile (hdT cmdW)) EB1.out))
 have HK1 : Hid (k ≤ 1000 ∧ (ls1.take k).length = k) := ⟨by have := LF1.out.nle HLN.out LSL1.out; omega, hl1.len⟩
 generalize hls : ls1.drop k = ls2 at *
 generalize hn : n1 - k = n2 at *
 generalize hts : ls1.take k = ts1 at *
 clear hk hl1 hl2 hc2 e1 e2 HTK1 hls hn hts LF1 HD1 HB1 LS1 LSL1 EB1
 generalize World.setCell w3 ⟨g3, 0, none⟩ _ = v1 at *
 go_wp2_with fail
 refine (readCommand_any gd B x1 m1 false sp1 k cap1 ts1 v1 HD1t.out HL1t.out (fun q hq => ⟨HNE.out q (LT1.out q hq), (HQ.out q (LT1.out q hq)).1⟩)).mono ?_
 rintro e w4 ⟨rfl, ht, x2, m2, hd, hvn, hm2, hp2⟩
 rw [← HK1.out.2, ← wordsOf_length] at hm2
 rw [EA1.out] at hm2 hp2
 have HM2 := zh hm2; have HP2 := zh hp2; have HD2 := zh hd
 have HV2 : Hid (x2.vn = 0 ∧ (x2.c1 = none ∨ ∃ q ∈ ls, x2.c1 = slZ q.sp 1 1 q.cap)) := ⟨hvn.1.trans HV1.out.1, hvn.2.elim (fun h => .inl (h.trans HV1.out.2)) fun ⟨q, hq, h⟩ => .inr ⟨q, LT1.out q hq, h⟩⟩
 clear hm2 hp2 hd hvn HK1 EA1 HV1
 have LF2 := zh (LF1t.out.turn ht HD1t.out.lo HD1t.out.lt)
 have HB2 : Hid (Below B w w4) := HBt1.out.trans (ht.below HD1t.out.lo HD1t.out.lt)
 clear ht LF1t HD1t HL1t HBt1 LT1
 have HTK2 := zh (takeF_any envW g3 B sp2 n2 cap2 ls2 w4 LF2.out.cell.1 LF2.out.cell.2 LF2.out.li (fun q hq => HNE.out q (LS2.out q hq)) LF2.out.cap (by have := LF2.out.nle HLN.out LSL2.out; omega))
 go_wp2_with fail
 refine HTK2.out.mono ?_
 rintro e wt ⟨k, sp3, cap3, hk, rfl, rfl, hl1, hl2, hc2, e1, e2⟩
 have LF2t := zh (LF2.out.take sp3 (n2 - k) cap3 (ls2.drop k) hl2 hc2)
 have HD2t := zh (HD2.out.other LF2.out.box LF2.out.ne LF2.out.b3 (u := .slice sp3 (n2 - k) cap3))
 have HL2t : Hid (LinesIn (w4.setCell ⟨g3, 0, none⟩ (.slice sp3 (n2 - k) cap3)) B sp2 k (ls2.take k)) := hl1.below ((Below.refl B w4).setCell (p := ⟨g3, 0, none⟩) LF2.out.b3 _) (Nat.le_refl _)
 have HBt2 : Hid (Below B w (w4.setCell ⟨g3, 0, none⟩ (.slice sp3 (n2 - k) cap3))) := HB2.out.setCell (p := ⟨g3, 0, none⟩) LF2.out.b3 _
 have LS3 : Hid (∀ q ∈ ls2.drop k, q ∈ ls) := fun q hq => LS2.out q (List.mem_of_mem_drop hq)
 have LT2 : Hid (∀ q ∈ ls2.take k, q ∈ ls) := fun q hq => LS2.out q (List.mem_of_mem_take hq)
 have LSL3 : Hid ((ls2.drop k).length ≤ ls.length) := by show _ ≤ _; rw [List.length_drop]; have := LSL2.out; omega
 have EA2 := zh (e1.trans (congrArg (List.takeWhile (hdT envW)) EB2.out))
 have EB3 := zh (e2.trans (congrArg (List.dropWhile (hdT envW)) EB2.out))
 have HK2 : Hid (k ≤ 1000 ∧ (ls2.take k).length = k) := ⟨by have := LF2.out.nle HLN.out LSL2.out; omega, hl1.len⟩
 generalize hls : ls2.drop k = ls3 at *
 generalize hn : n2 - k = n3 at *
 generalize hts : ls2.take k = ts2 at *
 clear hk hl1 hl2 hc2 e1 e2 HTK2 hls hn hts LF2 HD2 HB2 LS2 LSL2 EB2
 generalize World.setCell w4 ⟨g3, 0, none⟩ _ = v2 at *
 go_wp2_with fail
 refine (readEnv_any gd B x2 m2 false sp2 k cap2 ts2 v2 HD2t.out HL2t.out HK2.out.1 HV2.out.1).mono ?_
 rintro e w5 ⟨rfl, hf, x3, m3, hd, hc3, hm3, hp3⟩
 have HV3 : Hid (x3.c1 = none ∨ ∃ q ∈ ls, x3.c1 = slZ q.sp 1 1 q.cap) := by show _ ∨ _; rw [hc3]; exact HV2.out.2
 clear hc3
 rw [EA2.out] at hm3 hp3
 have HM3 := zh hm3; have HP3 := zh hp3; have HD3 := zh hd
 have LF3 := zh (LF2t.out.frm hf)
 have HB3 : Hid (Below B w w5) := HBt2.out.trans hf.b
 clear hm3 hp3 hd hf LF2t HD2t HL2t HBt2 LT2 HK2 EA2 HV2
 have HTK3 := zh (takeF_any matW g3 B sp3 n3 cap3 ls3 w5 LF3.out.cell.1 LF3.out.cell.2 LF3.out.li (fun q hq => HNE.out q (LS3.out q hq)) LF3.out.cap (by have := LF3.out.nle HLN.out LSL3.out; omega))
 go_wp2_with fail
 refine HTK3.out.mono ?_
 rintro e wt ⟨k, sp4, cap4, hk, rfl, rfl, hl1, hl2, hc2, e1, e2⟩
 have LF3t := zh (LF3.out.take sp4 (n3 - k) cap4 (ls3.drop k) hl2 hc2)
 have HD3t := zh (HD3.out.other LF3.out.box LF3.out.ne LF3.out.b3 (u := .slice sp4 (n3 - k) cap4))
 have HL3t : Hid (LinesIn (w5.setCell ⟨g3, 0, none⟩ (.slice sp4 (n3 - k) cap4)) B sp3 k (ls3.take k)) := hl1.below ((Below.refl B w5).setCell (p := ⟨g3, 0, none⟩) LF3.out.b3 _) (Nat.le_refl _)
 have HBt3 : Hid (Below B w (w5.setCell ⟨g3, 0, none⟩ (.slice sp4 (n3 - k) cap4))) := HB3.out.setCell (p := ⟨g3, 0, none⟩) LF3.out.b3 _
 have LS4 : Hid (∀ q ∈ ls3.drop k, q ∈ ls) := fun q hq => LS3.out q (List.mem_of_mem_drop hq)
 have LT3 : Hid (∀ q ∈ ls3.take k, q ∈ ls) := fun q hq => LS3.out q (List.mem_of_mem_take hq)
 have LSL4 : Hid ((ls3.drop k).length ≤ ls.length) := by show _ ≤ _; rw [List.length_drop]; have := LSL3.out; omega
 have EA3 := zh (e1.trans (congrArg (List.takeWhile (hdT matW)) EB3.out))
 have EB4 := zh (e2.trans (congrArg (List.dropWhile (hdT matW)) EB3.out))
 have HK3 : Hid (k ≤ 1000 ∧ (ls3.take k).length = k) := ⟨by have := LF3.out.nle HLN.out LSL3.out; omega, hl1.len⟩
 generalize hls : ls3.drop k = ls4 at *
 generalize hn : n3 - k = n4 at *
 generalize hts : ls3.take k = ts3 at *
 clear hk hl1 hl2 hc2 e1 e2 HTK3 hls hn hts LF3 HD3 HB3 LS3 LSL3 EB3
 generalize World.setCell w5 ⟨g3, 0, none⟩ _ = v3 at *
 go_wp2_with fail
 refine (readFiles_any gd B x3 m3 false matW sp3 k cap3 ts3 v3 HD3t.out HL3t.out HK3.out.1 (fun q hq => by have := (HQ.out q (LT3.out q hq)).2; omega) (fun q hq => HSZ.out q (LT3.out q hq))).mono ?_
 rintro e w6 ⟨spm, nm, cm, lm, m4, v4, rfl, ht, hd, ho, hm4, hr4⟩
 rw [EA3.out] at hm4 hr4
 have HM4 := zh hm4; have HR4 := zh hr4
 have HD4 := zh (hd.out.set 6 (.slice spm nm cm) { x3 with m1 := spm, mn := nm, mc := cm, m := lm } m4 v4 rfl hd.out.c hd.out.v ho.out hd.out.p)
 have cS := (hd.out.cell (j := 6) rfl).1
 have fS := (hd.out.cell (j := 6) rfl).2
 have ht2 : Turn gd v3 (w6.setCell ⟨gd, 6, none⟩ (.slice spm nm cm)) := ht.trans (Turn.tick _ _ _ _)
 clear hd ho hm4 hr4 ht HK3 EA3
 go_upto_region 8 with fail
 clear cS fS
 generalize World.setCell w6 ⟨gd, 6, none⟩ _ = w7 at *
 have ht := ht2
 clear ht2
 have LF4 := zh (LF3t.out.turn ht HD3t.out.lo HD3t.out.lt)
 have HB4 : Hid (Below B w w7) := HBt3.out.trans (ht.below HD3t.out.lo HD3t.out.lt)
 clear ht LF3t HD3t HL3t HBt3 LT3
 have HTK4 := zh (takeF_any prdW g3 B sp4 n4 cap4 ls4 w7 LF4.out.cell.1 LF4.out.cell.2 LF4.out.li (fun q hq => HNE.out q (LS4.out q hq)) LF4.out.cap (by have := LF4.out.nle HLN.out LSL4.out; omega))
 go_wp2_with fail
 refine HTK4.out.mono ?_
 rintro e wt ⟨k, sp5, cap5, hk, rfl, rfl, hl1, hl2, hc2, e1, e2⟩
 have LF4t := zh (LF4.out.take sp5 (n4 - k) cap5 (ls4.drop k) hl2 hc2)
 have HD4t := zh (HD4.out.other LF4.out.box LF4.out.ne LF4.out.b3 (u := .slice sp5 (n4 - k) cap5))
 have HL4t : Hid (LinesIn (w7.setCell ⟨g3, 0, none⟩ (.slice sp5 (n4 - k) cap5)) B sp4 k (ls4.take k)) := hl1.below ((Below.refl B w7).setCell (p := ⟨g3, 0, none⟩) LF4.out.b3 _) (Nat.le_refl _)
 have HBt4 : Hid (Below B w (w7.setCell ⟨g3, 0, none⟩ (.slice sp5 (n4 - k) cap5))) := HB4.out.setCell (p := ⟨g3, 0, none⟩) LF4.out.b3 _
 have LS5 : Hid (∀ q ∈ ls4.drop k, q ∈ ls) := fun q hq => LS4.out q (List.mem_of_mem_drop hq)
 have LT4 : Hid (∀ q ∈ ls4.take k, q ∈ ls) := fun q hq => LS4.out q (List.mem_of_mem_take hq)
 have LSL5 : Hid ((ls4.drop k).length ≤ ls.length) := by show _ ≤ _; rw [List.length_drop]; have := LSL4.out; omega
 have EA4 := zh (e1.trans (congrArg (List.takeWhile (hdT prdW)) EB4.out))
 have EB5 := zh (e2.trans (congrArg (List.dropWhile (hdT prdW)) EB4.out))
 have HK4 : Hid (k ≤ 1000 ∧ (ls4.take k).length = k) := ⟨by have := LF4.out.nle HLN.out LSL4.out; omega, hl1.len⟩
 generalize hls : ls4.drop k = ls5 at *
 generalize hn : n4 - k = n5 at *
 generalize hts : ls4.take k = ts4 at *
 clear hk hl1 hl2 hc2 e1 e2 HTK4 hls hn hts LF4 HD4 HB4 LS4 LSL4 EB4
 generalize World.setCell w7 ⟨g3, 0, none⟩ _ = vq at *
 go_wp2_with fail
 refine (readFiles_any gd B { x3 with m1 := spm, mn := nm, mc := cm, m := lm } m4 v4 prdW sp4 k cap4 ts4 vq HD4t.out HL4t.out HK4.out.1 (fun q hq => by have := (HQ.out q (LT4.out q hq)).2; omega) (fun q hq => HSZ.out q (LT4.out q hq))).mono ?_
 rintro e w8 ⟨spp, np, cp, lp, m5, v5, rfl, ht, hd, ho, hm5, hr5⟩
 rw [EA4.out] at hm5 hr5
 have HM5 := zh hm5; have HR5 := zh hr5
 have HD5 := zh (hd.out.set 7 (.slice spp np cp) { x3 with m1 := spm, mn := nm, mc := cm, m := lm, p1 := spp, pn := np, pc := cp, p := lp } m5 v5 rfl hd.out.c hd.out.v hd.out.m ho.out)
 have cS := (hd.out.cell (j := 7) rfl).1
 have fS := (hd.out.cell (j := 7) rfl).2
 have ht2 : Turn gd vq (w8.setCell ⟨gd, 7, none⟩ (.slice spp np cp)) := ht.trans (Turn.tick _ _ _ _)
 clear hd ho hm5 hr5 ht HK4 EA4
 go_upto_region 9 with fail
 clear cS fS
 generalize World.setCell w8 ⟨gd, 7, none⟩ _ = w9 at *
 have ht := ht2
 clear ht2
 have LF5 := zh (LF4t.out.turn ht HD4t.out.lo HD4t.out.lt)
 have HB5 : Hid (Below B w w9) := HBt4.out.trans (ht.below HD4t.out.lo HD4t.out.lt)
 clear ht LF4t HD4t HL4t HBt4 LT4
 have cB := LF5.out.cell.1
 obtain ⟨f, hf⟩ : ∃ f, f = decide (n5 = 0) := ⟨_, rfl⟩
 have hf2 : ((n5 : Int) == 0) = f := by
  rw [hf]
  by_cases h : n5 = 0
  ·subst h; rfl
  ·rw [decide_eq_false h, beq_eq_false_iff_ne]; omega
 have hf3 : decide ((n5 : Int) = 0) = f := by rw [← hf2]; rfl
 have HN5 : Hid ((wordsOf ls5).length = n5) := by show _ = _; rw [wordsOf_length, LF5.out.li.len]
 have HF := zh hf
 have HRQ := zh (require_any gd B { x3 with m1 := spm, mn := nm, mc := cm, m := lm, p1 := spp, pn := np, pc := cp, p := lp } m5 v5 f w9 HD5.out)
 clear hf
 go_wp2_with fail
 refine HRQ.out.mono ?_
 rintro e wc ⟨rfl, hd, ht⟩
 have HD6 := zh hd
 have LF6 := zh (LF5.out.turn ht HD5.out.lo HD5.out.lt)
 have HB6 : Hid (Below B w wc) := HB5.out.trans (ht.below HD5.out.lo HD5.out.lt)
 clear hd ht HRQ HD5 LF5 HB5 cB hf2 hf3
 have HPL : Hid ((m5 || !f) = !formedR L ∧ ((m5 || !f) = false → (v5 = false → ({ x3 with m1 := spm, mn := nm, mc := cm, m := lm, p1 := spp, pn := np, pc := cp, p := lp } : Rc).pl = recP L) ∧ (v5 = true → (vldE (recP L).m && vldE (recP L).p) = false))) :=
  rdl_plain HM1.out HP1.out HM2.out HP2.out HM3.out HP3.out HM4.out HR4.out HM5.out HR5.out (by rw [HF.out, ← HN5.out, EB5.out]; rfl) rfl
 clear HM1 HP1 HM2 HP2 HM3 HP3 HM4 HR4 HM5 HR5 HF HN5 EB5
 have HV5 : Hid (({ x3 with m1 := spm, mn := nm, mc := cm, m := lm, p1 := spp, pn := np, pc := cp, p := lp } : Rc).c1 = none ∨ ∃ q ∈ ls, ({ x3 with m1 := spm, mn := nm, mc := cm, m := lm, p1 := spp, pn := np, pc := cp, p := lp } : Rc).c1 = slZ q.sp 1 1 q.cap) := HV3.out
 clear HV3
 generalize hx5 : ({ x3 with m1 := spm, mn := nm, mc := cm, m := lm, p1 := spp, pn := np, pc := cp, p := lp } : Rc) = x5 at *
 generalize (m5 || !f) = m6 at *
 clear hx5
 obtain ⟨xr, mr, vr, hres⟩ := LF6.out.res
 have HRS := zh hres
 clear hres
 have HZ : Hid ((wc.setRow g2 (drL x5 m6 v5).toArray).heap[g2]? = some (.cells (drL x5 m6 v5).toArray 70 (0, 0))) := setRow_heap _ _ _ _ _ _ HRS.out
 have HBZ : Hid (Below B w (wc.setRow g2 (drL x5 m6 v5).toArray)) := below_setRow HB6.out LF6.out.b2 _
 have HKR : ∀ (e size n : Nat) (v : Value) (xs : List Value), wc.ownsRow B e size v n xs → e ≠ 70 → (wc.setRow g2 (drL x5 m6 v5).toArray).ownsRow B e size v n xs := fun e size n v xs h he => own_keptQ h fun k cur _ hc => setRow_other _ _ _ _ (by
  rintro rfl
  rw [HRS.out] at hc
  injection hc with hc
  injection hc with _ hc _
  exact he hc.symm)
 have HIN : Hid ((StrsIn (wc.setRow g2 (drL x5 m6 v5).toArray) (wc.setRow g2 (drL x5 m6 v5).toArray).heap.size x5.c1 x5.cn x5.c ∧ (x5.c1 = none ∨ ∃ q ∈ ls, x5.c1 = slZ q.sp 1 1 q.cap)) ∧ ((wc.setRow g2 (drL x5 m6 v5).toArray).ownsRow B 61 2 (.slice x5.v1 x5.vn x5.vc) x5.vn (x5.v.flatMap vrL) ∧ x5.v.length = x5.vn) ∧ (OwnE (wc.setRow g2 (drL x5 m6 v5).toArray) B (.slice x5.m1 x5.mn x5.mc) x5.m ∧ x5.m.length = x5.mn) ∧ (OwnE (wc.setRow g2 (drL x5 m6 v5).toArray) B (.slice x5.p1 x5.pn x5.pc) x5.p ∧ x5.p.length = x5.pn)) :=
  ⟨⟨(HD6.out.c.below (below_setRow (Below.refl B wc) LF6.out.b2 _) (Nat.le_refl _)).more (by rw [setRow_size]; exact Nat.le_of_lt (Nat.lt_of_le_of_lt HD6.out.lo HD6.out.lt)), HV5.out⟩, ⟨HKR _ _ _ _ _ HD6.out.v.1 (by decide), HD6.out.v.2⟩, ⟨⟨HKR _ _ _ _ _ HD6.out.m.1.1 (by decide), HD6.out.m.1.2⟩, HD6.out.m.2⟩, ⟨⟨HKR _ _ _ _ _ HD6.out.p.1.1 (by decide), HD6.out.p.1.2⟩, HD6.out.p.2⟩⟩
 clear HKR LF6 HB6
 go_wp2_with (first
  | (refine wpList_load_row rfl 70 _ rfl gd rfl 70 _ (0, 0) _ HD6.out.row Tryz.underlying70 rfl (infoDrA _ _ _) ?_)
  | (refine wpList_store_row rfl 70 _ _ rfl g2 (drL x5 m6 v5).toArray rfl rfl 70 _ HRS.out (infoDrA _ _ _) rfl (oneDr _ _ _) ?_))
 refine bodyPost_ret (results_row1 rfl _ _ _ _ _ _ _ rfl HZ.out Tryz.underlying70 rfl (infoDrA _ _ _)) rfl ?_
 exact ⟨x5, m6, v5, rfl, by rw [← HBE.out]; exact HIN.out, by rw [← HLW.out]; exact HPL.out.1, by rw [← HLW.out]; exact HPL.out.2, by rw [← HBE.out]; exact HBZ.out⟩
def rpB (p : Rp) : Bool := (nmB p.run.data.toList && scpB p.scp && nmB p.stp.data.toList) && ((decide (0 ≤ p.t) && decide (p.t ≤ 1099511627776)) && (cmdB p.c && (envB p.v && (vldE p.m && vldE p.p))))
theorem rcB_pl (x : Rc) : rcB x = rpB x.pl := rfl
def decW (r : Nat × List (List ByteArray)) : Nat × Rp := if r.1 ≠ 0 then (r.1, zP) else if formedR r.2 = true then (if rpB (recP r.2) = true then (0, recP r.2) else (1, zP)) else (2, zP)
def DcAns (r : Nat × Rp) (w : World) (e : Ending) (w' : World) : Prop := ∃ x, e = .returned (.tuple #[.agg x.L.toArray, .int .i64 (r.1 : Nat)]) ∧ Hid (RcIn x w') ∧ x.pl = r.2 ∧ Below w.heap.size w w'
theorem zX_in (w : World) : RcIn zX w := ⟨⟨rfl, fun h => absurd h (by show ¬ (0 < 0); omega)⟩, ⟨rfl, fun h => absurd h (by show ¬ (0 < 0); omega)⟩, ⟨rfl, by show ∀ x ∈ ([] : List En), _; simp, fun h => absurd h (by show ¬ (0 < 0); omega)⟩, ⟨rfl, by show ∀ x ∈ ([] : List En), _; simp, fun h => absurd h (by show ¬ (0 < 0); omega)⟩, ⟨by show (0 : Nat) ≤ _; omega, by show (0 : Nat) ≤ _; omega, by show (0 : Nat) ≤ _; omega, by show (0 : Nat) ≤ _; omega, by show (0 : Nat) ≤ _; omega, by show (0 : Nat) ≤ _; omega, by show (0 : Nat) ≤ _; omega⟩, ⟨by show ∀ y ∈ ([] : List ByteArray), _; simp, by show ∀ y ∈ ([] : List Vr), _; simp⟩, by show -9223372036854775808 ≤ (0 : Int) ∧ (0 : Int) ≤ 9223372036854775807; omega⟩
theorem firstBad_allR : ∀ {L : List (List ByteArray)}, firstBad L = 0 → ∀ q ∈ L, chkLine q = 0
 | [], _, _, hq => by cases hq
 | l :: r, h, q, hq => by
   unfold firstBad at h
   by_cases hl : chkLine l = 0
   ·rw [if_pos hl] at h
    rcases List.mem_cons.1 hq with rfl | hq
    ·exact hl
    ·exact firstBad_allR h q hq
   ·rw [if_neg hl] at h; exact absurd h hl
theorem chkLine_okR {q : List ByteArray} (h : chkLine q = 0) : q ≠ [] ∧ q.length ≤ 120 ∧ ∀ s ∈ q, s.size ≤ 32768 := by
 unfold chkLine at h
 by_cases h0 : q.length = 0
 ·rw [if_pos h0] at h; cases h
 ·rw [if_neg h0] at h
  by_cases h1 : 120 < q.length ∨ q.any lng = true
  ·rw [if_pos h1] at h; cases h
  ·have h2 : ¬ 120 < q.length := fun k => h1 (.inl k)
   have h3 : ¬ q.any lng = true := fun k => h1 (.inr k)
   refine ⟨fun e => h0 (by rw [e]; rfl), by omega, fun s hs => ?_⟩
   have h4 : lng s = false := by
    cases hl : lng s with
    | false => rfl
    | true => exact absurd (List.any_eq_true.2 ⟨s, hs, hl⟩) h3
   unfold lng at h4
   have := of_decide_eq_false h4
   omega
theorem decC_good {S : ByteArray} (h : (decC S).1 = 0) : (decC S).2.length ≤ 1000 ∧ ∀ q ∈ (decC S).2, q ≠ [] ∧ q.length ≤ 120 ∧ ∀ s ∈ q, s.size ≤ 32768 := by
 unfold decC at h ⊢
 by_cases hb : 262144 < S.size
 ·rw [if_pos hb] at h; cases h
 ·rw [if_neg hb] at h ⊢
  cases hr : rdoc S with
  | none => rw [hr] at h; cases h
  | some L =>
    rw [hr] at h
    simp only at h ⊢
    by_cases hc : chk L = 0
    ·rw [if_pos hc]
     unfold chk at hc
     by_cases h1 : 1000 < L.length
     ·rw [if_pos h1] at hc; cases hc
     ·rw [if_neg h1] at hc
      exact ⟨by show L.length ≤ _; omega, fun q hq => chkLine_okR (firstBad_allR hc q hq)⟩
    ·rw [if_neg hc] at h; cases h
theorem own_capQ {w : World} {base e size n cap : Nat} {sp : Option Addr} {xs : List Value} (h : w.ownsRow base e size (.slice sp n cap) n xs) : n ≤ cap := by
 obtain ⟨_, ⟨e, e0⟩ | ⟨g, cap', cur, e, _, _, hle, _⟩⟩ := h
 ·omega
 ·injection e with _ _ e; omega
theorem good_in {L : List (List ByteArray)} (hg : L.length ≤ 1000 ∧ ∀ q ∈ L, q ≠ [] ∧ q.length ≤ 120 ∧ ∀ s ∈ q, s.size ≤ 32768) (hf : formedR L = true) {x : Rc} {w : World} (hp : x.pl = recP L) (hm : rpB x.pl = true ∨ True)
 (h1 : StrsIn w w.heap.size x.c1 x.cn x.c) (h2 : VrsIn w w.heap.size x.v1 x.vn x.vc x.v) (h3 : EnsIn w w.heap.size x.m1 x.mn x.mc x.m) (h4 : EnsIn w w.heap.size x.p1 x.pn x.pc x.p) : RcIn x w := by
 have hsub : ∀ {M : List (List ByteArray)} {tag : ByteArray}, (∀ q ∈ M, q ∈ L) → (∀ q ∈ M.takeWhile (hdT tag), q ∈ L) ∧ (∀ q ∈ M.dropWhile (hdT tag), q ∈ L) := fun {M tag} h =>
  ⟨fun q hq => h q (List.takeWhile_sublist _ |>.mem hq), fun q hq => h q (List.dropWhile_sublist _ |>.mem hq)⟩
 have t1 := hsub (M := L) (tag := recW) (fun q h => h)
 have t2 := hsub (M := R1 L) (tag := cmdW) t1.2
 have t3 := hsub (M := R2 L) (tag := envW) t2.2
 have t4 := hsub (M := R3 L) (tag := matW) t3.2
 have t5 := hsub (M := R4 L) (tag := prdW) t4.2
 have hw : ∀ {M : List (List ByteArray)} (k : Nat), (∀ q ∈ M, q ∈ L) → ((M.getD 0 []).getD k ByteArray.empty).size ≤ 32768 := fun {M} k h => by
  rw [List.getD_eq_getElem?_getD, List.getD_eq_getElem?_getD]
  cases hM : M[0]? with
  | none => simp
  | some q =>
    simp only [Option.getD_some]
    cases hk : q[k]? with
    | none => simp
    | some s => exact (hg.2 q (h q (List.mem_of_getElem? hM))).2.2 s (List.mem_of_getElem? hk)
 have hlen : ∀ {M : List (List ByteArray)} {tag : ByteArray}, M.length ≤ 1000 → (M.takeWhile (hdT tag)).length ≤ 1000 ∧ (M.dropWhile (hdT tag)).length ≤ 1000 := fun {M tag} h =>
  ⟨Nat.le_trans (List.takeWhile_sublist _).length_le h, Nat.le_trans (List.dropWhile_sublist _).length_le h⟩
 have l1 := hlen (M := L) (tag := recW) hg.1
 have l2 := hlen (M := R1 L) (tag := cmdW) l1.2
 have l3 := hlen (M := R2 L) (tag := envW) l2.2
 have l4 := hlen (M := R3 L) (tag := matW) l3.2
 have l5 := hlen (M := R4 L) (tag := prdW) l4.2
 have hrl : ∀ {tag : ByteArray} {M : List (List ByteArray)}, M.length ≤ 1000 → ((rawL tag M).getD []).length ≤ 1000 := fun {tag M} h => by
  cases hr : rawL tag M with
  | none => simp
  | some l => rw [Option.getD_some, rawL_length hr]; exact h
 have er : x.run = ((T1 L).getD 0 []).getD 1 ByteArray.empty := congrArg Rp.run hp
 have es : x.scp = ((T1 L).getD 0 []).getD 2 ByteArray.empty := congrArg Rp.scp hp
 have et : x.stp = ((T1 L).getD 0 []).getD 3 ByteArray.empty := congrArg Rp.stp hp
 have ett : x.t = pnv (((T1 L).getD 0 []).getD 4 ByteArray.empty).data.toList := congrArg Rp.t hp
 have ec : x.c = ((T2 L).getD 0 []).drop 1 := congrArg Rp.c hp
 have ev : x.v = (T3 L).map vrOf := congrArg Rp.v hp
 have em : x.m = (rawL matW (T4 L)).getD [] := congrArg Rp.m hp
 have ep : x.p = (rawL prdW (T5 L)).getD [] := congrArg Rp.p hp
 have hml : maxLen = 9223372036854775807 := rfl
 have hq0 : ((T2 L).getD 0 []).length ≤ 120 ∧ ∀ s ∈ (T2 L).getD 0 [], s.size ≤ 32768 := by
  rw [List.getD_eq_getElem?_getD]
  cases hM : (T2 L)[0]? with
  | none => exact ⟨by simp, by simp⟩
  | some q => exact ⟨(hg.2 q (t2.1 q (List.mem_of_getElem? hM))).2.1, (hg.2 q (t2.1 q (List.mem_of_getElem? hM))).2.2⟩
 refine ⟨h1, h2, h3, h4, ⟨?_, ?_, ?_, ?_, ?_, ?_, ?_⟩, ⟨fun y hy => ?_, fun y hy => ?_⟩, ?_⟩
 ·rw [er]; have := hw (M := T1 L) 1 t1.1; omega
 ·rw [es]; have := hw (M := T1 L) 2 t1.1; omega
 ·rw [et]; have := hw (M := T1 L) 3 t1.1; omega
 ·rw [← h1.len, ec, List.length_drop]; have := hq0.1; omega
 ·rw [← h2.len, ev, List.length_map]; exact l3.1
 ·rw [← h3.len, em]; exact hrl l4.1
 ·rw [← h4.len, ep]; exact hrl l5.1
 ·rw [ec] at hy; have := hq0.2 y (List.mem_of_mem_drop hy); omega
 ·rw [ev] at hy
  obtain ⟨q, hq, rfl⟩ := List.mem_map.1 hy
  have hgq := (hg.2 q (t3.1 q hq)).2.2
  have hk : ∀ k, (q.getD k ByteArray.empty).size ≤ 32768 := fun k => by
   rw [List.getD_eq_getElem?_getD]
   cases hk : q[k]? with
   | none => simp
   | some s => exact hgq s (List.mem_of_getElem? hk)
  exact ⟨by have := hk 1; show (q.getD 1 ByteArray.empty).size ≤ _; omega, by have := hk 2; show (q.getD 2 ByteArray.empty).size ≤ _; omega⟩
 ·rw [ett]
  unfold pnv
  by_cases hk : pnk (((T1 L).getD 0 []).getD 4 ByteArray.empty).data.toList = true
  ·rw [if_pos hk]
   have := (pnk_dec hk).2.2
   omega
  ·rw [if_neg hk]; omega
theorem RcIn.setRowZ {x : Rc} {w : World} {g2 : Nat} (h : RcIn x w) (h1 : ∀ b off, x.c1 = some ⟨b, off, none⟩ → g2 < b) (h2 : w.ownsRow (g2 + 1) 61 2 (.slice x.v1 x.vn x.vc) x.vn (x.v.flatMap vrL)) (h3 : OwnE w (g2 + 1) (.slice x.m1 x.mn x.mc) x.m) (h4 : OwnE w (g2 + 1) (.slice x.p1 x.pn x.pc) x.p) (hl : x.v.length = x.vn ∧ x.m.length = x.mn ∧ x.p.length = x.pn) (cs : Array Value) : RcIn x (w.setRow g2 cs) := by
 have hk : ∀ (e size n : Nat) (v : Value) (xs : List Value), w.ownsRow (g2 + 1) e size v n xs → (w.setRow g2 cs).ownsRow (g2 + 1) e size v n xs := fun e size n v xs h => own_keptQ h fun k cur hge _ => setRow_other _ _ _ _ (by omega)
 refine ⟨⟨h.c.len, fun hn => ?_⟩, rowsV_in (hk _ _ _ _ _ h2) hl.1, OwnE.ens ⟨hk _ _ _ _ _ h3.1, h3.2⟩ hl.2.1, OwnE.ens ⟨hk _ _ _ _ _ h4.1, h4.2⟩ hl.2.2, h.b, h.s, h.t⟩
 obtain ⟨b, off, e, hlt, hc⟩ := h.c.cells hn
 refine ⟨b, off, e, by rw [setRow_size]; exact hlt, fun j hj => ?_⟩
 have hne : b ≠ g2 := by have := h1 b off e; omega
 exact (World.cell?_of_block (w := w) (setRow_other _ _ _ _ hne)).trans (hc j hj)
theorem buildRc0 (w : World) : (Instr.build 31 #[]).run Tryz.prog w = .ok (.agg zX.L.toArray) w := by kernel_rfl
theorem BSrc.upR {w w' : World} {sp : Option Addr} {n cap : Nat} {l : List UInt8} (h : BSrc w w.heap.size sp n cap l) (hb : Below w.heap.size w w') : BSrc w' w'.heap.size sp n cap l := by
 have h1 := h.below hb (Nat.le_refl _)
 exact ⟨h1.len, fun hn => by
  obtain ⟨bb, off, e, hlt, hc, hcell⟩ := h1.cells hn
  exact ⟨bb, off, e, Nat.lt_of_lt_of_le hlt hb.size, hc, hcell⟩⟩
theorem decodeR_any (sp : Option Addr) (n cap : Nat) (l : List UInt8) (w : World) (hs : BSrc w w.heap.size sp n cap l) :
 Calls Tryz.prog 8 #[.slice sp n cap] w (DcAns (decW (decC ⟨l.toArray⟩)) w) := by
 have HS := zh hs
 clear hs
 go_enter Tryz.func8, Tryz.ntmps8
 go_upto_region 1 with fail
 generalize hw0 : World.alloc w _ = w0
 have hr0 : w0.heap[w.heap.size]? = some (.cells zX.L.toArray 31 (0, 0)) := by rw [← hw0]; exact heap_alloc_new _ _
 have hb0 : Below w.heap.size w w0 := by rw [← hw0]; exact (Below.refl _ _).alloc (Nat.le_refl _) _
 have HR0 := zh hr0; have HB0 := zh hb0
 have HLT0 : Hid (w.heap.size < w0.heap.size) := (Array.getElem?_eq_some_iff.1 hr0).1
 clear hw0 hr0 hb0
 have HDC := zh (Decode_any sp n cap l w0 (HS.out.upR HB0.out))
 have HGD := zh (fun h => decC_good (S := ⟨l.toArray⟩) h)
 clear HS
 generalize decC ⟨l.toArray⟩ = D at *
 go_wp2_with fail
 refine HDC.out.mono ?_
 rintro e w1 ⟨sp1, cap1, ls, hws, rfl, hrow, heach, hb1⟩
 have HWS := zh hws
 have HR1 : Hid (w1.heap[w.heap.size]? = some (.cells zX.L.toArray 31 (0, 0))) := (hb1.block _ HLT0.out).trans HR0.out
 have HB1 : Hid (Below w.heap.size w w1) := HB0.out.trans (hb1.mono HB0.out.size)
 have HLI := zh (lines_ownD hrow heach)
 have HCP : Hid (ls.length ≤ cap1) := own_capQ hrow
 have HCE : Hid (∀ q ∈ ls, q.n ≤ q.cap) := fun q hq => own_capQ (heach q hq)
 have HLT1 : Hid (w.heap.size < w1.heap.size) := Nat.lt_of_lt_of_le HLT0.out hb1.size
 have HFL : Hid (∀ q ∈ ls, ∀ b : Nat, (∃ o s, q.sp = some ⟨b, o, s⟩) → w.heap.size < b) := by
  show ∀ _, _
  rintro q hq b ⟨o, s, e⟩
  have h := heach q hq
  unfold LnOwn at h
  obtain ⟨_, ⟨e1, _⟩ | ⟨g, cap', cur, e1, hbg, _⟩⟩ := h
  ·injection e1 with e1 _ _; rw [e1] at e; cases e
  ·injection e1 with e1 _ _
   rw [e1] at e
   injection e with e; injection e with e _ _
   have := HLT0.out
   omega
 clear hws hrow heach hb1 HDC HR0 HB0 HLT0
 obtain ⟨g2, hg2⟩ : ∃ g2, g2 = w.heap.size := ⟨_, rfl⟩
 rw [← hg2] at HR1 HLT1 HFL
 rw [← hg2]
 have HG2 := zh hg2
 clear hg2
 by_cases hc : D.1 = 0
 case neg =>
  have hd : decide ((D.1 : Int) = 0) = false := by rw [decide_eq_false_iff_not]; omega
  have hd2 : ((D.1 : Int) == 0) = false := by rw [beq_eq_false_iff_ne]; omega
  have hd3 : ((D.1 : Int) != 0) = true := by rw [bne_iff_ne]; omega
  have HZ : Hid ((w1.setRow g2 zX.L.toArray).heap[g2]? = some (.cells zX.L.toArray 31 (0, 0))) := setRow_heap _ _ _ _ _ _ HR1.out
  have HBZ : Hid (Below w.heap.size w (w1.setRow g2 zX.L.toArray)) := below_setRow HB1.out (by rw [HG2.out]; exact Nat.le_refl _) _
  have HDW : Hid (decW D = (D.1, zP)) := by show _ = _; unfold decW; rw [if_pos hc]
  clear HLI HCP HCE HWS HFL
  go_wp2_with (first
   | (refine wpList_build_eq rfl 31 [] rfl [] rfl (.agg zX.L.toArray) (buildRc0 _) ?_)
   | (refine wpList_store_row rfl 31 _ _ rfl g2 zX.L.toArray rfl rfl 31 _ HR1.out (infoRcA zX) rfl (oneRc zX) ?_))
  refine bodyPost_ret (results_row_tmp rfl _ _ g2 31 _ (0, 0) _ rfl HZ.out Tryz.underlying31 rfl (infoRcA zX)) rfl ?_
  exact ⟨zX, by rw [HDW.out]; rfl, zX_in _, by rw [HDW.out]; rfl, HBZ.out⟩
 have hgd := HGD.out hc
 have hd : decide ((D.1 : Int) = 0) = true := by rw [decide_eq_true_iff]; omega
 have hd2 : ((D.1 : Int) == 0) = true := by rw [beq_iff_eq]; omega
 have hd3 : ((D.1 : Int) != 0) = false := by rw [bne_eq_false_iff_eq]; omega
 rw [← HWS.out] at hgd
 have HGQ := zh hgd
 have HMW : ∀ q ∈ ls, q.l ∈ wordsOf ls := fun q hq => List.mem_map.2 ⟨q, hq, rfl⟩
 have HRL := zh (readLinesR_any sp1 ls.length cap1 ls w1 HLI.out HCP.out (by rw [← wordsOf_length]; exact hgd.1) (fun q hq => (hgd.2 _ (HMW q hq)).1) (fun q hq => ⟨HCE.out q hq, by rw [← (HLI.out.each q hq).len]; have := (hgd.2 _ (HMW q hq)).2.1; omega⟩) (fun q hq s hs => by have := (hgd.2 _ (HMW q hq)).2.2 s hs; omega))
 have HDW : Hid (decW D = if formedR (wordsOf ls) = true then (if rpB (recP (wordsOf ls)) = true then (0, recP (wordsOf ls)) else (1, zP)) else (2, zP)) := by
  show _ = _
  unfold decW
  rw [if_neg (fun h => h hc), HWS.out]
 clear hgd HMW HLI HCP HCE HGD hc HWS
 generalize wordsOf ls = L at *
 go_wp2_with fail
 refine HRL.out.mono ?_
 rintro e w2 ⟨x, m, v, rfl, hin, hm, hmf, hb2⟩
 have HIN' := hin; have HM := zh hm; have HMF := hmf
 have HR2 : Hid (w2.heap[g2]? = some (.cells zX.L.toArray 31 (0, 0))) := (hb2.block _ HLT1.out).trans HR1.out
 have HB2 : Hid (Below w.heap.size w w2) := HB1.out.trans (hb2.mono HB1.out.size)
 have HLT2 : Hid (g2 < w2.heap.size) := Nat.lt_of_lt_of_le HLT1.out hb2.size
 have HAB : Hid ((∀ b off, x.c1 = some ⟨b, off, none⟩ → g2 < b) ∧ w2.ownsRow (g2 + 1) 61 2 (.slice x.v1 x.vn x.vc) x.vn (x.v.flatMap vrL) ∧ OwnE w2 (g2 + 1) (.slice x.m1 x.mn x.mc) x.m ∧ OwnE w2 (g2 + 1) (.slice x.p1 x.pn x.pc) x.p) := by
  have hlt := HLT1.out
  refine ⟨fun b off e => ?_, own_lower hin.out.2.1.1 (by omega), ⟨own_lower hin.out.2.2.1.1.1 (by omega), hin.out.2.2.1.1.2⟩, ⟨own_lower hin.out.2.2.2.1.1 (by omega), hin.out.2.2.2.1.2⟩⟩
  rcases hin.out.1.2 with h | ⟨q, hq, h⟩
  ·rw [h] at e; cases e
  ·rw [h] at e
   exact HFL.out q hq b (by
    unfold slZ at e
    split at e
    ·exact ⟨off, none, e⟩
    ·cases hsp : q.sp with
     | none => rw [hsp] at e; cases e
     | some a =>
       rw [hsp] at e
       obtain ⟨b', o', s'⟩ := a
       simp [Addr.add] at e
       exact ⟨o', s', by rw [e.1]⟩)
 have HLN : Hid (x.v.length = x.vn ∧ x.m.length = x.mn ∧ x.p.length = x.pn) := ⟨hin.out.2.1.2, hin.out.2.2.1.2, hin.out.2.2.2.2⟩
 have HIN : Hid (StrsIn w2 w2.heap.size x.c1 x.cn x.c ∧ VrsIn w2 w2.heap.size x.v1 x.vn x.vc x.v ∧ EnsIn w2 w2.heap.size x.m1 x.mn x.mc x.m ∧ EnsIn w2 w2.heap.size x.p1 x.pn x.pc x.p) := ⟨hin.out.1.1, rowsV_in hin.out.2.1.1 hin.out.2.1.2, OwnE.ens hin.out.2.2.1.1 hin.out.2.2.1.2, OwnE.ens hin.out.2.2.2.1 hin.out.2.2.2.2⟩
 clear hin HIN' hm hmf hb2 HRL HR1 HB1 HLT1 hd hd2 hd3 HFL
 have HZS := zh (heap_alloc_new w2 (.cells (drL zX false false).toArray 70))
 go_upto_region 5 with (refine wpList_store_row rfl 70 _ _ rfl w2.heap.size (drL x m v).toArray rfl rfl 70 _ HZS.out (infoDrA _ _ _) rfl (oneDr _ _ _) ?_; rw [setRow_new]; clear HZS)
 have HBD' : Hid (Below w2.heap.size w2 (w2.alloc (.cells (drL x m v).toArray 70))) := (Below.refl _ _).alloc (Nat.le_refl _) _
 have HD3' : Hid ((w2.alloc (.cells (drL x m v).toArray 70)).heap[w2.heap.size]? = some (.cells (drL x m v).toArray 70 (0, 0))) := heap_alloc_new _ _
 generalize World.alloc w2 (.cells (drL x m v).toArray 70) = w3 at *
 have HR3 : Hid (w3.heap[g2]? = some (.cells zX.L.toArray 31 (0, 0))) := (HBD'.out.block _ HLT2.out).trans HR2.out
 have HB3 : Hid (Below w.heap.size w w3) := HB2.out.trans (HBD'.out.mono HB2.out.size)
 have HIN3 : Hid (StrsIn w3 w3.heap.size x.c1 x.cn x.c ∧ VrsIn w3 w3.heap.size x.v1 x.vn x.vc x.v ∧ EnsIn w3 w3.heap.size x.m1 x.mn x.mc x.m ∧ EnsIn w3 w3.heap.size x.p1 x.pn x.pc x.p) := ⟨HIN.out.1.upR HBD'.out, HIN.out.2.1.up HBD'.out, HIN.out.2.2.1.upR HBD'.out, HIN.out.2.2.2.upR HBD'.out⟩
 obtain ⟨g6, hg6⟩ : ∃ g6, g6 = w2.heap.size := ⟨_, rfl⟩
 rw [← hg6] at HD3'
 rw [← hg6]
 have HAB3 : Hid ((∀ b off, x.c1 = some ⟨b, off, none⟩ → g2 < b) ∧ w3.ownsRow (g2 + 1) 61 2 (.slice x.v1 x.vn x.vc) x.vn (x.v.flatMap vrL) ∧ OwnE w3 (g2 + 1) (.slice x.m1 x.mn x.mc) x.m ∧ OwnE w3 (g2 + 1) (.slice x.p1 x.pn x.pc) x.p) := ⟨HAB.out.1, own_belowG HAB.out.2.1 HBD'.out, HAB.out.2.2.1.below HBD'.out, HAB.out.2.2.2.below HBD'.out⟩
 clear hg6 HBD' HR2 HB2 HIN HLT2 HAB
 have c8 : w3.cell? ⟨g6, 8, none⟩ = some (.bool m) := heap_cellR HD3'.out rfl
 have c9 : w3.cell? ⟨g6, 9, none⟩ = some (.bool v) := heap_cellR HD3'.out rfl
 cases m with
 | true =>
   have hfo : formedR L = false := by have := HM.out; simpa using this
   have HDW2 : Hid (decW D = (2, zP)) := by show _ = _; rw [HDW.out, if_neg (by rw [hfo]; simp)]
   have HZ : Hid ((w3.setRow g2 zX.L.toArray).heap[g2]? = some (.cells zX.L.toArray 31 (0, 0))) := setRow_heap _ _ _ _ _ _ HR3.out
   have HBZ : Hid (Below w.heap.size w (w3.setRow g2 zX.L.toArray)) := below_setRow HB3.out (by rw [HG2.out]; exact Nat.le_refl _) _
   clear HIN3 HMF HDW hfo HM
   go_wp2_with (first
    | (refine wpList_build_eq rfl 31 [] rfl [] rfl (.agg zX.L.toArray) (buildRc0 _) ?_)
    | (refine wpList_store_row rfl 31 _ _ rfl g2 zX.L.toArray rfl rfl 31 _ HR3.out (infoRcA zX) rfl (oneRc zX) ?_))
   refine bodyPost_ret (results_row_tmp rfl _ _ g2 31 _ (0, 0) _ rfl HZ.out Tryz.underlying31 rfl (infoRcA zX)) rfl ?_
   exact ⟨zX, by rw [HDW2.out]; rfl, zX_in _, by rw [HDW2.out]; rfl, HBZ.out⟩
 | false =>
   have hfo : formedR L = true := by have := HM.out; simpa using this
   have HFO := zh hfo
   obtain ⟨hv0, hv1⟩ := HMF.out rfl
   rw [if_pos hfo] at HDW
   clear hfo HM HMF
   cases v with
   | true =>
     have hrp : rpB (recP L) = false := by
      have h1 := hv1 rfl
      unfold rpB
      rw [h1]; simp
     have HDW2 : Hid (decW D = (1, zP)) := by show _ = _; rw [HDW.out, if_neg (by rw [hrp]; simp)]
     have HZ : Hid ((w3.setRow g2 zX.L.toArray).heap[g2]? = some (.cells zX.L.toArray 31 (0, 0))) := setRow_heap _ _ _ _ _ _ HR3.out
     have HBZ : Hid (Below w.heap.size w (w3.setRow g2 zX.L.toArray)) := below_setRow HB3.out (by rw [HG2.out]; exact Nat.le_refl _) _
     clear HIN3 HDW hrp hv0 hv1
     go_wp2_with (first
      | (refine wpList_build_eq rfl 31 [] rfl [] rfl (.agg zX.L.toArray) (buildRc0 _) ?_)
      | (refine wpList_store_row rfl 31 _ _ rfl g2 zX.L.toArray rfl rfl 31 _ HR3.out (infoRcA zX) rfl (oneRc zX) ?_))
     refine bodyPost_ret (results_row_tmp rfl _ _ g2 31 _ (0, 0) _ rfl HZ.out Tryz.underlying31 rfl (infoRcA zX)) rfl ?_
     exact ⟨zX, by rw [HDW2.out]; rfl, zX_in _, by rw [HDW2.out]; rfl, HBZ.out⟩
   | false =>
     have hpl := hv0 rfl
     have HXI : Hid (RcIn x w3) := good_in HGQ.out HFO.out hpl (.inr trivial) HIN3.out.1 HIN3.out.2.1 HIN3.out.2.2.1 HIN3.out.2.2.2
     have HVA := zh (validR_any x w3 HXI.out)
     rw [rcB_pl, hpl] at HVA
     have HPL := zh hpl
     have HRG : Hid (w3.rangeAt g6 0 x.L) := by
      intro j u hj
      rw [Nat.zero_add]
      exact heap_cellR HD3'.out (by unfold drL; rw [List.getElem?_append_left (List.getElem?_eq_some_iff.1 hj).1]; exact hj)
     have HG6 : Hid (g6 < w3.heap.size) := (Array.getElem?_eq_some_iff.1 HD3'.out).1
     have HG22 : Hid (g2 < w3.heap.size) := (Array.getElem?_eq_some_iff.1 HR3.out).1
     clear hv0 hv1 HIN3 hpl HD3' HGQ HFO
     go_wp2_with (refine wpList_load_mid rfl 31 _ rfl g6 0 rfl _ _ HRG.out Tryz.underlying31 rfl (infoRc x) ?_)
     refine HVA.out.mono ?_
     rintro e w4 ⟨rfl, hb4⟩
     have HR4 : Hid (w4.heap[g2]? = some (.cells zX.L.toArray 31 (0, 0))) := (hb4.block _ HG22.out).trans HR3.out
     have HB4 : Hid (Below w.heap.size w w4) := HB3.out.trans (hb4.mono HB3.out.size)
     have HXI4 : Hid (RcIn x w4) := HXI.out.below hb4
     have HRG4 : Hid (w4.rangeAt g6 0 x.L) := range_belowR HRG.out hb4 HG6.out
     have HAB4 : Hid ((∀ b off, x.c1 = some ⟨b, off, none⟩ → g2 < b) ∧ w4.ownsRow (g2 + 1) 61 2 (.slice x.v1 x.vn x.vc) x.vn (x.v.flatMap vrL) ∧ OwnE w4 (g2 + 1) (.slice x.m1 x.mn x.mc) x.m ∧ OwnE w4 (g2 + 1) (.slice x.p1 x.pn x.pc) x.p) := ⟨HAB3.out.1, own_belowG HAB3.out.2.1 hb4, HAB3.out.2.2.1.below hb4, HAB3.out.2.2.2.below hb4⟩
     clear hb4 HVA HR3 HB3 HXI HRG HG6 HG22 c8 c9
     cases hb : rpB (recP L) with
     | false =>
       have HDW2 : Hid (decW D = (1, zP)) := by show _ = _; rw [HDW.out, if_neg (by rw [hb]; simp)]
       have HZ : Hid ((w4.setRow g2 zX.L.toArray).heap[g2]? = some (.cells zX.L.toArray 31 (0, 0))) := setRow_heap _ _ _ _ _ _ HR4.out
       have HBZ : Hid (Below w.heap.size w (w4.setRow g2 zX.L.toArray)) := below_setRow HB4.out (by rw [HG2.out]; exact Nat.le_refl _) _
       clear HDW hb HXI4 HRG4
       go_wp2_with (first
        | (refine wpList_build_eq rfl 31 [] rfl [] rfl (.agg zX.L.toArray) (buildRc0 _) ?_)
        | (refine wpList_store_row rfl 31 _ _ rfl g2 zX.L.toArray rfl rfl 31 _ HR4.out (infoRcA zX) rfl (oneRc zX) ?_))
       refine bodyPost_ret (results_row_tmp rfl _ _ g2 31 _ (0, 0) _ rfl HZ.out Tryz.underlying31 rfl (infoRcA zX)) rfl ?_
       exact ⟨zX, by rw [HDW2.out]; rfl, zX_in _, by rw [HDW2.out]; rfl, HBZ.out⟩
     | true =>
       have HDW2 : Hid (decW D = (0, recP L)) := by show _ = _; rw [HDW.out, if_pos hb]
       have HZ : Hid ((w4.setRow g2 x.L.toArray).heap[g2]? = some (.cells x.L.toArray 31 (0, 0))) := setRow_heap _ _ _ _ _ _ HR4.out
       have HBZ : Hid (Below w.heap.size w (w4.setRow g2 x.L.toArray)) := below_setRow HB4.out (by rw [HG2.out]; exact Nat.le_refl _) _
       have HXZ : Hid (RcIn x (w4.setRow g2 x.L.toArray)) := RcIn.setRowZ HXI4.out HAB4.out.1 HAB4.out.2.1 HAB4.out.2.2.1 HAB4.out.2.2.2 HLN.out _
       clear HDW hb HXI4
       go_wp2_with (first
        | (refine wpList_load_mid rfl 31 _ rfl g6 0 rfl _ _ HRG4.out Tryz.underlying31 rfl (infoRc x) ?_)
        | (refine wpList_store_row rfl 31 _ _ rfl g2 x.L.toArray rfl rfl 31 _ HR4.out (infoRcA x) rfl (oneRc x) ?_))
       refine bodyPost_ret (results_row_tmp rfl _ _ g2 31 _ (0, 0) _ rfl HZ.out Tryz.underlying31 rfl (infoRcA x)) rfl ?_
       exact ⟨x, by rw [HDW2.out]; rfl, HXZ.out, by rw [HDW2.out]; exact HPL.out, HBZ.out⟩
end Go.Proofs.YtecllfbadciaoaaGreatDoor
