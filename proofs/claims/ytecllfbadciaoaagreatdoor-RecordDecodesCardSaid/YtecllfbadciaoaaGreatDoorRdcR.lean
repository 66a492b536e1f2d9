/-
  Plain and memory, for the reference's Decode of records: Run; the record's box (conditions in each lemma).
-/
import Derived.Test.YtecllfbadciaoaaGreatDoorZip
import Derived.Test.YtecllfbadciaoaaGreatDoorQ24
import Derived.Test.YtecllfbadciaoaaGreatDoorRecG
set_option maxRecDepth 100000
set_option maxHeartbeats 8000000
namespace Go.Proofs.YtecllfbadciaoaaGreatDoor
open Go.RowKit
theorem runL_any (tag : ByteArray) (B : Nat) (sp : Option Addr) (n cap i : Nat) (ls : List Ln) (w : World) (hl : LinesIn w B sp n ls) (hne : ∀ q ∈ ls, q.l ≠ []) (hmax : n ≤ 100000) (hi : i ≤ n) :
 Calls Tryz.prog 34 #[.slice sp n cap, .int .i64 i, .string tag] w fun e w' => ∃ k : Nat, i + k ≤ n ∧ ((wordsOf ls).drop i).takeWhile (hdT tag) = ((wordsOf ls).drop i).take k ∧ ((wordsOf ls).drop i).dropWhile (hdT tag) = (wordsOf ls).drop (i + k) ∧ e = .returned (.int .i64 k) ∧ w = w' := by
 have HL := zh hl; have HNE := zh hne
 clear hl hne
 have HWH : Hid (∀ k, i + k ≤ n → (∀ q ∈ (ls.drop i).take k, hdT tag q.l = true) → (∀ q, ls[i + k]? = some q → hdT tag q.l = false) → ((wordsOf ls).drop i).takeWhile (hdT tag) = ((wordsOf ls).drop i).take k ∧ ((wordsOf ls).drop i).dropWhile (hdT tag) = (wordsOf ls).drop (i + k)) := by
  show ∀ _, _
  intro k hk h1 h2
  obtain ⟨e1, e2⟩ := while_of (hdT tag) ((wordsOf ls).drop i) k (by rw [List.length_drop, wordsOf_length, HL.out.len]; omega) (fun q hq => by
   unfold wordsOf at hq
   rw [← List.map_drop, ← List.map_take] at hq
   obtain ⟨z, hz, rfl⟩ := List.mem_map.1 hq
   exact h1 z hz) (fun q hq => by
   rw [List.getElem?_drop] at hq
   unfold wordsOf at hq
   rw [List.getElem?_map] at hq
   cases hz : ls[i + k]? with
   | none => rw [hz] at hq; cases hq
   | some z => rw [hz] at hq; injection hq with hq; subst hq; exact h2 z hz)
  exact ⟨e1, by rw [e2, List.drop_drop]⟩
 go_enter Tryz.func34, Tryz.ntmps34
 go_wp2_with fail
 go_loop [7] (fun z => ∃ k : Nat, z = .int .i64 k ∧ i + k ≤ n ∧ Hid (∀ q ∈ (ls.drop i).take k, hdT tag q.l = true)) (fun z => n - (intOf z).toNat)
 case atStart => exact ⟨0, rfl, by omega, by show ∀ _, _; simp⟩
 case round =>
  obtain ⟨k, rfl, hkn, HA⟩ := hrel
  obtain ⟨j, hj⟩ : ∃ j, j = i + k := ⟨_, rfl⟩
  have hij : (i : Int) + (k : Int) = (j : Int) := by omega
  have q1 : IntKind.i64.wrap ((i : Int) + (k : Int)) = (j : Int) := by rw [hij]; exact IntWalk.i64_in _ (by omega)
  by_cases hlt : j < n
  ·have hd : decide ((j : Int) < (n : Int)) = true := by simp; omega
   obtain ⟨b, off, hsp, hb, hcell⟩ := HL.out.cells (by omega)
   have hk2 : j < ls.length := by have := HL.out.len; omega
   have ck := hcell j hk2
   have hq : ls[j] ∈ ls := List.getElem_mem _
   have hqk : ls[j]? = some ls[j] := List.getElem?_eq_getElem hk2
   have HST := zh (HL.out.each _ hq)
   have HN0 := zh (HNE.out _ hq)
   clear hcell
   obtain ⟨q, hqe⟩ : ∃ q, q = ls[j] := ⟨_, rfl⟩
   rw [← hqe] at ck hqk HST HN0 hq
   clear hqe hk2
   have hq0 : 0 < q.n := by
    have h1 := HST.out.len
    cases hql : q.l with
    | nil => exact absurd hql HN0.out
    | cons a r => rw [hql] at h1; simp at h1; omega
   obtain ⟨b2, off2, hsp2, hb2, hcell2⟩ := HST.out.cells hq0
   obtain ⟨s, r, hql⟩ : ∃ s r, q.l = s :: r := by
    cases hql : q.l with
    | nil => exact absurd hql HN0.out
    | cons a r => exact ⟨a, r, rfl⟩
   have c2 := hcell2 0 (by rw [hql]; simp)
   have e2 : q.l[0]'(by rw [hql]; simp) = s := by simp [hql]
   rw [e2, Nat.add_zero] at c2
   unfold Ln.val at ck
   rw [hsp2] at ck
   subst hsp
   have p1 : (0 : Int) ≤ (j : Int) := by omega
   have p2 : (j : Int) < (n : Int) := by omega
   have p3 : (0 : Int) < (q.n : Int) := by omega
   have HHD : Hid (hdT tag q.l = decide (s = tag)) := by show _ = _; rw [hql]; rfl
   have HQK : Hid (ls[i + k]? = some q) := by rw [← hj]; exact hqk
   have HJ := zh hj
   clear hcell2 hql e2 HST HN0 hq hqk hsp2 hj
   by_cases he : s = tag
   ·have hde : decide (s = tag) = true := decide_eq_true he
    have hte : (s.toList == tag.toList) = true := by rw [he]; simp
    have HA2 : Hid (∀ z ∈ (ls.drop i).take (k + 1), hdT tag z.l = true) := by
     intro z hz
     rw [List.take_add_one, List.getElem?_drop, HQK.out] at hz
     rcases List.mem_append.1 hz with h1 | h1
     ·exact HA.out z h1
     ·simp at h1; subst h1; rw [HHD.out]; exact hde
    have hjn : i + (k + 1) ≤ n := by have := HJ.out; omega
    clear HA HHD HQK he HJ
    go_wp2_with fail
    go_round
    case rel => exact ⟨k + 1, by go_num, hjn, HA2.out⟩
    case measure => simp [intOf]; omega
   ·have hde : decide (s = tag) = false := decide_eq_false he
    have hte : (s.toList == tag.toList) = false := by rw [beq_eq_false_iff_ne]; exact fun e => he (toList_inj e)
    have HNX : Hid (∀ z, ls[i + k]? = some z → hdT tag z.l = false) := by
     intro z hz
     rw [HQK.out] at hz
     injection hz with hz
     subst hz; rw [HHD.out]; exact hde
    clear HHD HQK he HJ
    go_wp2_with fail
    go_ret
    exact ⟨k, hkn, (HWH.out k hkn HA.out HNX.out).1, (HWH.out k hkn HA.out HNX.out).2, rfl, rfl⟩
  ·have hjn : j = n := by omega
   have hd : decide ((j : Int) < (n : Int)) = false := by simp; omega
   have HNX : Hid (∀ z, ls[i + k]? = some z → hdT tag z.l = false) := by
    intro z hz
    have h1 := (List.getElem?_eq_some_iff.1 hz).1
    have h2 := HL.out.len
    omega
   clear hj hjn
   go_wp2_with fail
   go_ret
   exact ⟨k, hkn, (HWH.out k hkn HA.out HNX.out).1, (HWH.out k hkn HA.out HNX.out).2, rfl, rfl⟩
theorem mem_tw {p : List ByteArray → Bool} {M : List (List ByteArray)} : ∀ q ∈ M.takeWhile p, p q = true := fun q hq => by
 have := List.all_takeWhile (l := M) (p := p)
 rw [List.all_eq_true] at this
 exact this q hq
theorem formed_shape {L : List (List ByteArray)} (h : formedR L = true) : ∃ q0 q1 rest, L = q0 :: q1 :: rest ∧ hdT recW q0 = true ∧ q0.length = 5 ∧ hdT cmdW q1 = true := by
 unfold formedR at h
 simp only [Bool.and_eq_true, decide_eq_true_eq] at h
 obtain ⟨h1, h2, -⟩ := h
 unfold okT at h1
 rw [Bool.and_eq_true, decide_eq_true_eq] at h1
 have a1 : T1 L ++ R1 L = L := List.takeWhile_append_dropWhile
 have a2 : T2 L ++ R2 L = R1 L := List.takeWhile_append_dropWhile
 have m1 : ∀ q ∈ T1 L, hdT recW q = true := mem_tw
 have m2 : ∀ q ∈ T2 L, hdT cmdW q = true := mem_tw
 rw [← a2] at a1
 generalize T1 L = A at *
 generalize T2 L = C at *
 match A, C, h1, h2 with
 | [q0], [q1], h1, _ =>
   have hk := h1.2
   unfold okH at hk
   rw [Bool.and_eq_true, decide_eq_true_eq] at hk
   exact ⟨q0, q1, R2 L, a1.symm, m1 q0 (by simp), hk.1, m2 q1 (by simp)⟩
def E3 (r : List (List ByteArray)) := r.takeWhile (hdT envW)
def F3 (r : List (List ByteArray)) := r.dropWhile (hdT envW)
def E4 (r : List (List ByteArray)) := (F3 r).takeWhile (hdT matW)
def F4 (r : List (List ByteArray)) := (F3 r).dropWhile (hdT matW)
def E5 (r : List (List ByteArray)) := (F4 r).takeWhile (hdT prdW)
def F5 (r : List (List ByteArray)) := (F4 r).dropWhile (hdT prdW)
theorem ref_formed {q0 q1 : List ByteArray} {r : List (List ByteArray)} (h0 : hdT recW q0 = true) (h5 : q0.length = 5) (h1 : hdT cmdW q1 = true) :
 formedR (q0 :: q1 :: r) = (pnk (q0.getD 4 ByteArray.empty).data.toList && ((E3 r).all len3 && ((rawL matW (E4 r)).isSome && ((rawL prdW (E5 r)).isSome && decide ((F5 r).length = 0))))) ∧
 (formedR (q0 :: q1 :: r) = true → recP (q0 :: q1 :: r) = { hdP zP q0 with c := q1.drop 1, v := (E3 r).map vrOf, m := (rawL matW (E4 r)).getD [], p := (rawL prdW (E5 r)).getD [] }) := by
 obtain ⟨n1, n2, n3, n4, n5, n6, n7, n8, n9, n10⟩ := ne_rc
 have x1 : hdT recW q1 = false := hdT_ne (Ne.symm n1) h1
 have t1 : T1 (q0 :: q1 :: r) = [q0] := by unfold T1; simp [h0, x1]
 have r1 : R1 (q0 :: q1 :: r) = q1 :: r := by unfold R1; simp [h0, x1]
 have t2 : T2 (q0 :: q1 :: r) = q1 :: r.takeWhile (hdT cmdW) := by unfold T2; rw [r1]; simp [h1]
 have r2 : R2 (q0 :: q1 :: r) = r.dropWhile (hdT cmdW) := by unfold R2; rw [r1]; simp [h1]
 have hok : okT [q0] = pnk (q0.getD 4 ByteArray.empty).data.toList := by unfold okT okH; simp [h5]
 cases hr : r with
 | nil =>
   subst hr
   refine ⟨?_, fun _ => ?_⟩
   ·unfold formedR T3 T4 T5 R5 R4 R3; rw [t1, t2, r2, hok]; rfl
   ·unfold recP T3 T4 T5 R4 R3; rw [t1, t2, r2]; rfl
 | cons c r' =>
   rw [← hr]
   by_cases hc : hdT cmdW c = true
   ·have f3 : F3 r = r := by unfold F3; rw [hr, List.dropWhile_cons, if_neg (by rw [hdT_ne n5 hc]; simp)]
    have f4 : F4 r = r := by unfold F4; rw [f3, hr, List.dropWhile_cons, if_neg (by rw [hdT_ne n6 hc]; simp)]
    have f5 : F5 r = r := by unfold F5; rw [f4, hr, List.dropWhile_cons, if_neg (by rw [hdT_ne n7 hc]; simp)]
    have hz : decide ((F5 r).length = 0) = false := by rw [f5, hr]; simp
    have hl : decide ((T2 (q0 :: q1 :: r)).length = 1) = false := by
     rw [t2, hr, List.takeWhile_cons, if_pos hc]; simp
    have hf : formedR (q0 :: q1 :: r) = false := by unfold formedR; rw [hl]; simp
    refine ⟨by rw [hf, hz]; simp, fun h => by rw [hf] at h; cases h⟩
   ·have tw : r.takeWhile (hdT cmdW) = [] := by rw [hr, List.takeWhile_cons, if_neg hc]
    have dw : r.dropWhile (hdT cmdW) = r := by rw [hr, List.dropWhile_cons, if_neg hc]
    rw [tw] at t2
    rw [dw] at r2
    have e3 : T3 (q0 :: q1 :: r) = E3 r := by unfold T3; rw [r2]; rfl
    have e4 : T4 (q0 :: q1 :: r) = E4 r := by unfold T4 R3; rw [r2]; rfl
    have e5 : T5 (q0 :: q1 :: r) = E5 r := by unfold T5 R4 R3; rw [r2]; rfl
    have g5 : R5 (q0 :: q1 :: r) = F5 r := by unfold R5 R4 R3; rw [r2]; rfl
    refine ⟨?_, fun _ => ?_⟩
    ·unfold formedR; rw [t1, t2, e3, e4, e5, g5, hok]; rfl
    ·unfold recP; rw [t1, t2, e3, e4, e5]; rfl
theorem run_midZ {t e : TypeId} {sz : Nat} (ht : Tryz.prog.underlying t = some (.slice e)) (he : (Tryz.prog.info? e).map (·.size) = some sz) (w : World) (sp : Option Addr) (n cap k m : Nat) (hk : k ≤ m) (hm : m ≤ n) (hc : n ≤ cap) :
 (Instr.slice t (.slice sp n cap) (some (.int .i64 k)) (some (.int .i64 m)) none).run Tryz.prog w = .ok (.slice (slZ sp k sz cap) (m - k) (cap - k)) w := by
 have h1 : (0 : Int) ≤ (k : Int) ∧ (k : Int) ≤ (m : Int) := ⟨by omega, by omega⟩
 have h2 : (0 : Int) ≤ (m : Int) ∧ (m : Int) ≤ (cap : Int) := ⟨by omega, by omega⟩
 have h3 : m ≤ cap := by omega
 simp [Instr.slice, Instr.sliceBounds, Instr.sliceBound, asIntOf, run_underlying ht, sizeOf_of he, hk, h3, slZ]
theorem LinesIn.mid {w : World} {B : Nat} {sp : Option Addr} {n cap : Nat} {ls : List Ln} (h : LinesIn w B sp n ls) {k m : Nat} (hk : k ≤ m) (hm : m ≤ n) (hc : n ≤ cap) : LinesIn w B (slZ sp k 1 cap) (m - k) ((ls.drop k).take (m - k)) :=
 (h.from (by omega) hc).till (by omega)
structure RbB (gr B : Nat) (x : Rc) (w : World) : Prop where
 row : w.heap[gr]? = some (.cells x.L.toArray 31 (0, 0))
 lo : B ≤ gr
 c : StrsIn w B x.c1 x.cn x.c
 v : w.ownsRow B 61 2 (.slice x.v1 x.vn x.vc) x.vn (x.v.flatMap vrL) ∧ x.v.length = x.vn
theorem RbB.lt {gr B : Nat} {x : Rc} {w : World} (h : RbB gr B x w) : gr < w.heap.size := (Array.getElem?_eq_some_iff.1 h.row).1
theorem RbB.cell {gr B j : Nat} {x : Rc} {w : World} {u : Value} (h : RbB gr B x w) (hj : x.L[j]? = some u) : w.cell? ⟨gr, j, none⟩ = some u ∧ w.frozen? ⟨gr, j, none⟩ = false := ⟨heap_cellR h.row hj, frozen_of_row _ _ _ _ _ h.row⟩
theorem RbB.below {gr B : Nat} {x : Rc} {w w' : World} (h : RbB gr B x w) (hb : Below w.heap.size w w') : RbB gr B x w' :=
 ⟨(hb.block gr h.lt).trans h.row, h.lo, h.c.below hb (Nat.le_of_lt (Nat.lt_of_le_of_lt h.lo h.lt)), ⟨own_keptQ h.v.1 fun g cur _ hc => hb.block g (Array.getElem?_eq_some_iff.1 hc).1, h.v.2⟩⟩
theorem RbB.set {gr B : Nat} {x : Rc} {w : World} (h : RbB gr B x w) (j : Nat) (u : Value) (x' : Rc) (hr : x.L.toArray.setIfInBounds j u = x'.L.toArray) (hc : x'.c1 = x.c1 ∧ x'.cn = x.cn ∧ x'.c = x.c) (hv : x'.v1 = x.v1 ∧ x'.vn = x.vn ∧ x'.vc = x.vc ∧ x'.v = x.v) :
 RbB gr B x' (w.setCell ⟨gr, j, none⟩ u) := by
 refine ⟨by rw [heap_setCell_same _ _ _ _ _ _ h.row, hr], h.lo, ?_, ?_⟩
 ·rw [hc.1, hc.2.1, hc.2.2]
  exact h.c.below ((Below.refl B w).setCell (p := ⟨gr, j, none⟩) h.lo _) (Nat.le_refl _)
 ·rw [hv.1, hv.2.1, hv.2.2.1, hv.2.2.2]
  exact ⟨own_setOther h.v.1 h.row (by decide), h.v.2⟩
theorem RbB.grownRow {gr B : Nat} {x : Rc} {w w' : World} (h : RbB gr B x w) (hg : w.grownBy w' (Value.slice x.v1 x.vn x.vc).ownBlock) : w'.heap[gr]? = some (.cells x.L.toArray 31 (0, 0)) :=
 (hg.block gr h.lt (own_neQ h.v.1 h.row (by decide))).trans h.row
theorem RbB.push {gr B : Nat} {x : Rc} {w : World} (h : RbB gr B x w) (sp : Option Addr) (cap : Nat) (y : Vr) (w' : World) (ho : w'.ownsRow B 61 2 (.slice sp (x.vn + 1) cap) (x.vn + 1) ((x.v ++ [y]).flatMap vrL)) (hg : w.grownBy w' (Value.slice x.v1 x.vn x.vc).ownBlock) :
 RbB gr B { x with v1 := sp, vn := x.vn + 1, vc := cap, v := x.v ++ [y] } (w'.setCell ⟨gr, 5, none⟩ (.slice sp (x.vn + 1) cap)) := by
 have hbb : Below B w w' := (Below.refl B w).grown hg (Nat.le_of_lt (Nat.lt_of_le_of_lt h.lo h.lt)) (own_baseG h.v.1)
 exact ⟨by rw [heap_setCell_same _ _ _ _ _ _ (h.grownRow hg)]; rfl, h.lo, h.c.below (hbb.setCell (p := ⟨gr, 5, none⟩) h.lo _) (Nat.le_refl _),
  ⟨own_setOther ho (h.grownRow hg) (by decide), by show (x.v ++ [y]).length = _; simp [h.v.2]⟩⟩
theorem RbB.pushFrm {gr B : Nat} {x : Rc} {w w' : World} (h : RbB gr B x w) (hg : w.grownBy w' (Value.slice x.v1 x.vn x.vc).ownBlock) (u : Value) : Frm gr B w (w'.setCell ⟨gr, 5, none⟩ u) :=
 ⟨((Below.refl B w).grown hg (Nat.le_of_lt (Nat.lt_of_le_of_lt h.lo h.lt)) (own_baseG h.v.1)).setCell (p := ⟨gr, 5, none⟩) h.lo _,
  fun k cs t fr hk hne ht => (heap_setCell_other _ _ _ _ hne).trans (hg.block k (Array.getElem?_eq_some_iff.1 hk).1 (own_neQ h.v.1 hk ht))⟩
end Go.Proofs.YtecllfbadciaoaaGreatDoor
