/-
  The walk of record.Decode (condition: the bytes stand in memory).
-/
import Derived.Test.YtecllfbadciaoaaGreatDoorZip
import Derived.Test.YtecllfbadciaoaaGreatDoorQ18
set_option maxRecDepth 100000
set_option maxHeartbeats 8000000
namespace Go.Proofs.YtecllfbadciaoaaGreatDoor
open Go.RowKit
def rpB (p : Rp) : Bool := (nmB p.run.data.toList && scpB p.scp && nmB p.stp.data.toList) && ((decide (0 ≤ p.t) && decide (p.t ≤ 1099511627776)) && (cmdB p.c && (envB p.v && (vldE p.m && vldE p.p))))
theorem rcB_pl (x : Rc) : rcB x = rpB x.pl := rfl
def decW (r : Nat × List (List ByteArray)) : Nat × Rp := if r.1 ≠ 0 then (r.1, zP) else if formedR r.2 = true then (if rpB (recP r.2) = true then (0, recP r.2) else (1, zP)) else (2, zP)
def DcAns (r : Nat × Rp) (w : World) (e : Ending) (w' : World) : Prop := ∃ x, e = .returned (.tuple #[.agg x.L.toArray, .int .i64 (r.1 : Nat)]) ∧ Hid (RcIn x w') ∧ x.pl = r.2 ∧ Below w.heap.size w w'
theorem zX_in (w : World) : RcIn zX w := ⟨⟨rfl, fun h => absurd h (by show ¬ (0 < 0); omega)⟩, ⟨rfl, fun h => absurd h (by show ¬ (0 < 0); omega)⟩, ⟨rfl, by show ∀ x ∈ ([] : List En), _; simp, fun h => absurd h (by show ¬ (0 < 0); omega)⟩, ⟨rfl, by show ∀ x ∈ ([] : List En), _; simp, fun h => absurd h (by show ¬ (0 < 0); omega)⟩, ⟨by show (0 : Nat) ≤ _; omega, by show (0 : Nat) ≤ _; omega, by show (0 : Nat) ≤ _; omega, by show (0 : Nat) ≤ _; omega, by show (0 : Nat) ≤ _; omega, by show (0 : Nat) ≤ _; omega, by show (0 : Nat) ≤ _; omega⟩, ⟨by show ∀ y ∈ ([] : List ByteArray), _; simp, by show ∀ y ∈ ([] : List Vr), _; simp⟩, by show -9223372036854775808 ≤ (0 : Int) ∧ (0 : Int) ≤ 9223372036854775807; omega⟩
theorem firstBad_allR : ∀ {L : List (List ByteArray)}, firstBad L = 0 → ∀ q ∈ L, chkLine q = 0
 | [], _, _, hq => by cases hq
 | l :: r, h, q, hq => by
   unfold firstBad at h
   by_cases hl : chkLine l = 0
   ·rw [if_pos hl] at h
    rcases List.mem_cons.1 hq with rfl | hq
    ·exact hl
    ·exact firstBad_allR h q hq
   ·rw [if_neg hl] at h; exact absurd h hl
theorem chkLine_okR {q : List ByteArray} (h : chkLine q = 0) : q ≠ [] ∧ q.length ≤ 120 ∧ ∀ s ∈ q, s.size ≤ 32768 := by
 unfold chkLine at h
 by_cases h0 : q.length = 0
 ·rw [if_pos h0] at h; cases h
 ·rw [if_neg h0] at h
  by_cases h1 : 120 < q.length ∨ q.any lng = true
  ·rw [if_pos h1] at h; cases h
  ·have h2 : ¬ 120 < q.length := fun k => h1 (.inl k)
   have h3 : ¬ q.any lng = true := fun k => h1 (.inr k)
   refine ⟨fun e => h0 (by rw [e]; rfl), by omega, fun s hs => ?_⟩
   have h4 : lng s = false := by
    cases hl : lng s with
    | false => rfl
    | true => exact absurd (List.any_eq_true.2 ⟨s, hs, hl⟩) h3
   unfold lng at h4
   have := of_decide_eq_false h4
   omega
theorem decC_good {S : ByteArray} (h : (decC S).1 = 0) : (decC S).2.length ≤ 1000 ∧ ∀ q ∈ (decC S).2, q ≠ [] ∧ q.length ≤ 120 ∧ ∀ s ∈ q, s.size ≤ 32768 := by
 unfold decC at h ⊢
 by_cases hb : 262144 < S.size
 ·rw [if_pos hb] at h; cases h
 ·rw [if_neg hb] at h ⊢
  cases hr : rdoc S with
  | none => rw [hr] at h; cases h
  | some L =>
    rw [hr] at h
    simp only at h ⊢
    by_cases hc : chk L = 0
    ·rw [if_pos hc]
     unfold chk at hc
     by_cases h1 : 1000 < L.length
     ·rw [if_pos h1] at hc; cases hc
     ·rw [if_neg h1] at hc
      exact ⟨by show L.length ≤ _; omega, fun q hq => chkLine_okR (firstBad_allR hc q hq)⟩
    ·rw [if_neg hc] at h; cases h
theorem own_capQ {w : World} {base e size n cap : Nat} {sp : Option Addr} {xs : List Value} (h : w.ownsRow base e size (.slice sp n cap) n xs) : n ≤ cap := by
 obtain ⟨_, ⟨e, e0⟩ | ⟨g, cap', cur, e, _, _, hle, _⟩⟩ := h
 ·omega
 ·injection e with _ _ e; omega
theorem good_in {L : List (List ByteArray)} (hg : L.length ≤ 1000 ∧ ∀ q ∈ L, q ≠ [] ∧ q.length ≤ 120 ∧ ∀ s ∈ q, s.size ≤ 32768) (hf : formedR L = true) {x : Rc} {w : World} (hp : x.pl = recP L) (hm : rpB x.pl = true ∨ True)
 (h1 : StrsIn w w.heap.size x.c1 x.cn x.c) (h2 : VrsIn w w.heap.size x.v1 x.vn x.vc x.v) (h3 : EnsIn w w.heap.size x.m1 x.mn x.mc x.m) (h4 : EnsIn w w.heap.size x.p1 x.pn x.pc x.p) : RcIn x w := by
 have hsub : ∀ {M : List (List ByteArray)} {tag : ByteArray}, (∀ q ∈ M, q ∈ L) → (∀ q ∈ M.takeWhile (hdT tag), q ∈ L) ∧ (∀ q ∈ M.dropWhile (hdT tag), q ∈ L) := fun {M tag} h =>
  ⟨fun q hq => h q (List.takeWhile_sublist _ |>.mem hq), fun q hq => h q (List.dropWhile_sublist _ |>.mem hq)⟩
 have t1 := hsub (M := L) (tag := recW) (fun q h => h)
 have t2 := hsub (M := R1 L) (tag := cmdW) t1.2
 have t3 := hsub (M := R2 L) (tag := envW) t2.2
 have t4 := hsub (M := R3 L) (tag := matW) t3.2
 have t5 := hsub (M := R4 L) (tag := prdW) t4.2
 have hw : ∀ {M : List (List ByteArray)} (k : Nat), (∀ q ∈ M, q ∈ L) → ((M.getD 0 []).getD k ByteArray.empty).size ≤ 32768 := fun {M} k h => by
  rw [List.getD_eq_getElem?_getD, List.getD_eq_getElem?_getD]
  cases hM : M[0]? with
  | none => simp
  | some q =>
    simp only [Option.getD_some]
    cases hk : q[k]? with
    | none => simp
    | some s => exact (hg.2 q (h q (List.mem_of_getElem? hM))).2.2 s (List.mem_of_getElem? hk)
 have hlen : ∀ {M : List (List ByteArray)} {tag : ByteArray}, M.length ≤ 1000 → (M.takeWhile (hdT tag)).length ≤ 1000 ∧ (M.dropWhile (hdT tag)).length ≤ 1000 := fun {M tag} h =>
  ⟨Nat.le_trans (List.takeWhile_sublist _).length_le h, Nat.le_trans (List.dropWhile_sublist _).length_le h⟩
 have l1 := hlen (M := L) (tag := recW) hg.1
 have l2 := hlen (M := R1 L) (tag := cmdW) l1.2
 have l3 := hlen (M := R2 L) (tag := envW) l2.2
 have l4 := hlen (M := R3 L) (tag := matW) l3.2
 have l5 := hlen (M := R4 L) (tag := prdW) l4.2
 have hrl : ∀ {tag : ByteArray} {M : List (List ByteArray)}, M.length ≤ 1000 → ((rawL tag M).getD []).length ≤ 1000 := fun {tag M} h => by
  cases hr : rawL tag M with
  | none => simp
  | some l => rw [Option.getD_some, rawL_length hr]; exact h
 have er : x.run = ((T1 L).getD 0 []).getD 1 ByteArray.empty := congrArg Rp.run hp
 have es : x.scp = ((T1 L).getD 0 []).getD 2 ByteArray.empty := congrArg Rp.scp hp
 have et : x.stp = ((T1 L).getD 0 []).getD 3 ByteArray.empty := congrArg Rp.stp hp
 have ett : x.t = pnv (((T1 L).getD 0 []).getD 4 ByteArray.empty).data.toList := congrArg Rp.t hp
 have ec : x.c = ((T2 L).getD 0 []).drop 1 := congrArg Rp.c hp
 have ev : x.v = (T3 L).map vrOf := congrArg Rp.v hp
 have em : x.m = (rawL matW (T4 L)).getD [] := congrArg Rp.m hp
 have ep : x.p = (rawL prdW (T5 L)).getD [] := congrArg Rp.p hp
 have hml : maxLen = 9223372036854775807 := rfl
 have hq0 : ((T2 L).getD 0 []).length ≤ 120 ∧ ∀ s ∈ (T2 L).getD 0 [], s.size ≤ 32768 := by
  rw [List.getD_eq_getElem?_getD]
  cases hM : (T2 L)[0]? with
  | none => exact ⟨by simp, by simp⟩
  | some q => exact ⟨(hg.2 q (t2.1 q (List.mem_of_getElem? hM))).2.1, (hg.2 q (t2.1 q (List.mem_of_getElem? hM))).2.2⟩
 refine ⟨h1, h2, h3, h4, ⟨?_, ?_, ?_, ?_, ?_, ?_, ?_⟩, ⟨fun y hy => ?_, fun y hy => ?_⟩, ?_⟩
 ·rw [er]; have := hw (M := T1 L) 1 t1.1; omega
 ·rw [es]; have := hw (M := T1 L) 2 t1.1; omega
 ·rw [et]; have := hw (M := T1 L) 3 t1.1; omega
 ·rw [← h1.len, ec, List.length_drop]; have := hq0.1; omega
 ·rw [← h2.len, ev, List.length_map]; exact l3.1
 ·rw [← h3.len, em]; exact hrl l4.1
 ·rw [← h4.len, ep]; exact hrl l5.1
 ·rw [ec] at hy; have := hq0.2 y (List.mem_of_mem_drop hy); omega
 ·rw [ev] at hy
  obtain ⟨q, hq, rfl⟩ := List.mem_map.1 hy
  have hgq := (hg.2 q (t3.1 q hq)).2.2
  have hk : ∀ k, (q.getD k ByteArray.empty).size ≤ 32768 := fun k => by
   rw [List.getD_eq_getElem?_getD]
   cases hk : q[k]? with
   | none => simp
   | some s => exact hgq s (List.mem_of_getElem? hk)
  exact ⟨by have := hk 1; show (q.getD 1 ByteArray.empty).size ≤ _; omega, by have := hk 2; show (q.getD 2 ByteArray.empty).size ≤ _; omega⟩
 ·rw [ett]
  unfold pnv
  by_cases hk : pnk (((T1 L).getD 0 []).getD 4 ByteArray.empty).data.toList = true
  ·rw [if_pos hk]
   have := (pnk_dec hk).2.2
   omega
  ·rw [if_neg hk]; omega
theorem RcIn.setRowZ {x : Rc} {w : World} {g2 : Nat} (h : RcIn x w) (h1 : ∀ b off, x.c1 = some ⟨b, off, none⟩ → g2 < b) (h2 : w.ownsRow (g2 + 1) 61 2 (.slice x.v1 x.vn x.vc) x.vn (x.v.flatMap vrL)) (h3 : OwnE w (g2 + 1) (.slice x.m1 x.mn x.mc) x.m) (h4 : OwnE w (g2 + 1) (.slice x.p1 x.pn x.pc) x.p) (hl : x.v.length = x.vn ∧ x.m.length = x.mn ∧ x.p.length = x.pn) (cs : Array Value) : RcIn x (w.setRow g2 cs) := by
 have hk : ∀ (e size n : Nat) (v : Value) (xs : List Value), w.ownsRow (g2 + 1) e size v n xs → (w.setRow g2 cs).ownsRow (g2 + 1) e size v n xs := fun e size n v xs h => own_keptQ h fun k cur hge _ => setRow_other _ _ _ _ (by omega)
 refine ⟨⟨h.c.len, fun hn => ?_⟩, rowsV_in (hk _ _ _ _ _ h2) hl.1, OwnE.ens ⟨hk _ _ _ _ _ h3.1, h3.2⟩ hl.2.1, OwnE.ens ⟨hk _ _ _ _ _ h4.1, h4.2⟩ hl.2.2, h.b, h.s, h.t⟩
 obtain ⟨b, off, e, hlt, hc⟩ := h.c.cells hn
 refine ⟨b, off, e, by rw [setRow_size]; exact hlt, fun j hj => ?_⟩
 have hne : b ≠ g2 := by have := h1 b off e; omega
 exact (World.cell?_of_block (w := w) (setRow_other _ _ _ _ hne)).trans (hc j hj)
theorem buildRc0 (w : World) : (Instr.build 31 #[]).run Tryz.prog w = .ok (.agg zX.L.toArray) w := by kernel_rfl
theorem BSrc.upR {w w' : World} {sp : Option Addr} {n cap : Nat} {l : List UInt8} (h : BSrc w w.heap.size sp n cap l) (hb : Below w.heap.size w w') : BSrc w' w'.heap.size sp n cap l := by
 have h1 := h.below hb (Nat.le_refl _)
 exact ⟨h1.len, fun hn => by
  obtain ⟨bb, off, e, hlt, hc, hcell⟩ := h1.cells hn
  exact ⟨bb, off, e, Nat.lt_of_lt_of_le hlt hb.size, hc, hcell⟩⟩
theorem decodeR_any (sp : Option Addr) (n cap : Nat) (l : List UInt8) (w : World) (hs : BSrc w w.heap.size sp n cap l) :
 Calls Tryz.prog 8 #[.slice sp n cap] w (DcAns (decW (decC ⟨l.toArray⟩)) w) := by
 have HS := zh hs
 clear hs
 go_enter Tryz.func8, Tryz.ntmps8
 go_upto_region 1 with fail
 generalize hw0 : World.alloc w _ = w0
 have hr0 : w0.heap[w.heap.size]? = some (.cells zX.L.toArray 31 (0, 0)) := by rw [← hw0]; exact heap_alloc_new _ _
 have hb0 : Below w.heap.size w w0 := by rw [← hw0]; exact (Below.refl _ _).alloc (Nat.le_refl _) _
 have HR0 := zh hr0; have HB0 := zh hb0
 have HLT0 : Hid (w.heap.size < w0.heap.size) := (Array.getElem?_eq_some_iff.1 hr0).1
 clear hw0 hr0 hb0
 have HDC := zh (Decode_any sp n cap l w0 (HS.out.upR HB0.out))
 have HGD := zh (fun h => decC_good (S := ⟨l.toArray⟩) h)
 clear HS
 generalize decC ⟨l.toArray⟩ = D at *
 go_wp2_with fail
 refine HDC.out.mono ?_
 rintro e w1 ⟨sp1, cap1, ls, hws, rfl, hrow, heach, hb1⟩
 have HWS := zh hws
 have HR1 : Hid (w1.heap[w.heap.size]? = some (.cells zX.L.toArray 31 (0, 0))) := (hb1.block _ HLT0.out).trans HR0.out
 have HB1 : Hid (Below w.heap.size w w1) := HB0.out.trans (hb1.mono HB0.out.size)
 have HLI := zh (lines_ownD hrow heach)
 have HCP : Hid (ls.length ≤ cap1) := own_capQ hrow
 have HCE : Hid (∀ q ∈ ls, q.n ≤ q.cap) := fun q hq => own_capQ (heach q hq)
 have HLT1 : Hid (w.heap.size < w1.heap.size) := Nat.lt_of_lt_of_le HLT0.out hb1.size
 have HFL : Hid (∀ q ∈ ls, ∀ b : Nat, (∃ o s, q.sp = some ⟨b, o, s⟩) → w.heap.size < b) := by
  show ∀ _, _
  rintro q hq b ⟨o, s, e⟩
  have h := heach q hq
  unfold LnOwn at h
  obtain ⟨_, ⟨e1, _⟩ | ⟨g, cap', cur, e1, hbg, _⟩⟩ := h
  ·injection e1 with e1 _ _; rw [e1] at e; cases e
  ·injection e1 with e1 _ _
   rw [e1] at e
   injection e with e; injection e with e _ _
   have := HLT0.out
   omega
 clear hws hrow heach hb1 HDC HR0 HB0 HLT0
 obtain ⟨g2, hg2⟩ : ∃ g2, g2 = w.heap.size := ⟨_, rfl⟩
 rw [← hg2] at HR1 HLT1 HFL
 rw [← hg2]
 have HG2 := zh hg2
 clear hg2
 by_cases hc : D.1 = 0
 case neg =>
  have hd : decide ((D.1 : Int) = 0) = false := by rw [decide_eq_false_iff_not]; omega
  have hd2 : ((D.1 : Int) == 0) = false := by rw [beq_eq_false_iff_ne]; omega
  have hd3 : ((D.1 : Int) != 0) = true := by rw [bne_iff_ne]; omega
  have HZ : Hid ((w1.setRow g2 zX.L.toArray).heap[g2]? = some (.cells zX.L.toArray 31 (0, 0))) := setRow_heap _ _ _ _ _ _ HR1.out
  have HBZ : Hid (Below w.heap.size w (w1.setRow g2 zX.L.toArray)) := below_setRow HB1.out (by rw [HG2.out]; exact Nat.le_refl _) _
  have HDW : Hid (decW D = (D.1, zP)) := by show _ = _; unfold decW; rw [if_pos hc]
  clear HLI HCP HCE HWS HFL
  go_wp2_with (first
   | (refine wpList_build_eq rfl 31 [] rfl [] rfl (.agg zX.L.toArray) (buildRc0 _) ?_)
   | (refine wpList_store_row rfl 31 _ _ rfl g2 zX.L.toArray rfl rfl 31 _ HR1.out (infoRcA zX) rfl (oneRc zX) ?_))
  refine bodyPost_ret (results_row_tmp rfl _ _ g2 31 _ (0, 0) _ rfl HZ.out Tryz.underlying31 rfl (infoRcA zX)) rfl ?_
  exact ⟨zX, by rw [HDW.out]; rfl, zX_in _, by rw [HDW.out]; rfl, HBZ.out⟩
 have hgd := HGD.out hc
 have hd : decide ((D.1 : Int) = 0) = true := by rw [decide_eq_true_iff]; omega
 have hd2 : ((D.1 : Int) == 0) = true := by rw [beq_iff_eq]; omega
 have hd3 : ((D.1 : Int) != 0) = false := by rw [bne_eq_false_iff_eq]; omega
 rw [← HWS.out] at hgd
 have HGQ := zh hgd
 have HMW : ∀ q ∈ ls, q.l ∈ wordsOf ls := fun q hq => List.mem_map.2 ⟨q, hq, rfl⟩
 have HRL := zh (readLinesR_any sp1 ls.length cap1 ls w1 HLI.out HCP.out (by rw [← wordsOf_length]; exact hgd.1) (fun q hq => (hgd.2 _ (HMW q hq)).1) (fun q hq => ⟨HCE.out q hq, by rw [← (HLI.out.each q hq).len]; have := (hgd.2 _ (HMW q hq)).2.1; omega⟩) (fun q hq s hs => by have := (hgd.2 _ (HMW q hq)).2.2 s hs; omega))
 have HDW : Hid (decW D = if formedR (wordsOf ls) = true then (if rpB (recP (wordsOf ls)) = true then (0, recP (wordsOf ls)) else (1, zP)) else (2, zP)) := by
  show _ = _
  unfold decW
  rw [if_neg (fun h => h hc), HWS.out]
 clear hgd HMW HLI HCP HCE HGD hc HWS
 generalize wordsOf ls = L at *
 go_wp2_with fail
 refine HRL.out.mono ?_
 rintro e w2 ⟨x, m, v, rfl, hin, hm, hmf, hb2⟩
 have HIN' := hin; have HM := zh hm; have HMF := hmf
 have HR2 : Hid (w2.heap[g2]? = some (.cells zX.L.toArray 31 (0, 0))) := (hb2.block _ HLT1.out).trans HR1.out
 have HB2 : Hid (Below w.heap.size w w2) := HB1.out.trans (hb2.mono HB1.out.size)
 have HLT2 : Hid (g2 < w2.heap.size) := Nat.lt_of_lt_of_le HLT1.out hb2.size
 have HAB : Hid ((∀ b off, x.c1 = some ⟨b, off, none⟩ → g2 < b) ∧ w2.ownsRow (g2 + 1) 61 2 (.slice x.v1 x.vn x.vc) x.vn (x.v.flatMap vrL) ∧ OwnE w2 (g2 + 1) (.slice x.m1 x.mn x.mc) x.m ∧ OwnE w2 (g2 + 1) (.slice x.p1 x.pn x.pc) x.p) := by
  have hlt := HLT1.out
  refine ⟨fun b off e => ?_, own_lower hin.out.2.1.1 (by omega), ⟨own_lower hin.out.2.2.1.1.1 (by omega), hin.out.2.2.1.1.2⟩, ⟨own_lower hin.out.2.2.2.1.1 (by omega), hin.out.2.2.2.1.2⟩⟩
  rcases hin.out.1.2 with h | ⟨q, hq, h⟩
  ·rw [h] at e; cases e
  ·rw [h] at e
   exact HFL.out q hq b (by
    unfold slZ at e
    split at e
    ·exact ⟨off, none, e⟩
    ·cases hsp : q.sp with
     | none => rw [hsp] at e; cases e
     | some a =>
       rw [hsp] at e
       obtain ⟨b', o', s'⟩ := a
       simp [Addr.add] at e
       exact ⟨o', s', by rw [e.1]⟩)
 have HLN : Hid (x.v.length = x.vn ∧ x.m.length = x.mn ∧ x.p.length = x.pn) := ⟨hin.out.2.1.2, hin.out.2.2.1.2, hin.out.2.2.2.2⟩
 have HIN : Hid (StrsIn w2 w2.heap.size x.c1 x.cn x.c ∧ VrsIn w2 w2.heap.size x.v1 x.vn x.vc x.v ∧ EnsIn w2 w2.heap.size x.m1 x.mn x.mc x.m ∧ EnsIn w2 w2.heap.size x.p1 x.pn x.pc x.p) := ⟨hin.out.1.1, rowsV_in hin.out.2.1.1 hin.out.2.1.2, OwnE.ens hin.out.2.2.1.1 hin.out.2.2.1.2, OwnE.ens hin.out.2.2.2.1 hin.out.2.2.2.2⟩
 clear hin HIN' hm hmf hb2 HRL HR1 HB1 HLT1 hd hd2 hd3 HFL
 have HZS := zh (heap_alloc_new w2 (.cells (drL zX false false).toArray 70))
 go_upto_region 5 with (refine wpList_store_row rfl 70 _ _ rfl w2.heap.size (drL x m v).toArray rfl rfl 70 _ HZS.out (infoDrA _ _ _) rfl (oneDr _ _ _) ?_; rw [setRow_new]; clear HZS)
 have HBD' : Hid (Below w2.heap.size w2 (w2.alloc (.cells (drL x m v).toArray 70))) := (Below.refl _ _).alloc (Nat.le_refl _) _
 have HD3' : Hid ((w2.alloc (.cells (drL x m v).toArray 70)).heap[w2.heap.size]? = some (.cells (drL x m v).toArray 70 (0, 0))) := heap_alloc_new _ _
 generalize World.alloc w2 (.cells (drL x m v).toArray 70) = w3 at *
 have HR3 : Hid (w3.heap[g2]? = some (.cells zX.L.toArray 31 (0, 0))) := (HBD'.out.block _ HLT2.out).trans HR2.out
 have HB3 : Hid (Below w.heap.size w w3) := HB2.out.trans (HBD'.out.mono HB2.out.size)
 have HIN3 : Hid (StrsIn w3 w3.heap.size x.c1 x.cn x.c ∧ VrsIn w3 w3.heap.size x.v1 x.vn x.vc x.v ∧ EnsIn w3 w3.heap.size x.m1 x.mn x.mc x.m ∧ EnsIn w3 w3.heap.size x.p1 x.pn x.pc x.p) := ⟨HIN.out.1.upR HBD'.out, HIN.out.2.1.up HBD'.out, HIN.out.2.2.1.upR HBD'.out, HIN.out.2.2.2.upR HBD'.out⟩
 obtain ⟨g6, hg6⟩ : ∃ g6, g6 = w2.heap.size := ⟨_, rfl⟩
 rw [← hg6] at HD3'
 rw [← hg6]
 have HAB3 : Hid ((∀ b off, x.c1 = some ⟨b, off, none⟩ → g2 < b) ∧ w3.ownsRow (g2 + 1) 61 2 (.slice x.v1 x.vn x.vc) x.vn (x.v.flatMap vrL) ∧ OwnE w3 (g2 + 1) (.slice x.m1 x.mn x.mc) x.m ∧ OwnE w3 (g2 + 1) (.slice x.p1 x.pn x.pc) x.p) := ⟨HAB.out.1, own_belowG HAB.out.2.1 HBD'.out, HAB.out.2.2.1.below HBD'.out, HAB.out.2.2.2.below HBD'.out⟩
 clear hg6 HBD' HR2 HB2 HIN HLT2 HAB
 have c8 : w3.cell? ⟨g6, 8, none⟩ = some (.bool m) := heap_cellR HD3'.out rfl
 have c9 : w3.cell? ⟨g6, 9, none⟩ = some (.bool v) := heap_cellR HD3'.out rfl
 cases m with
 | true =>
   have hfo : formedR L = false := by have := HM.out; simpa using this
   have HDW2 : Hid (decW D = (2, zP)) := by show _ = _; rw [HDW.out, if_neg (by rw [hfo]; simp)]
   have HZ : Hid ((w3.setRow g2 zX.L.toArray).heap[g2]? = some (.cells zX.L.toArray 31 (0, 0))) := setRow_heap _ _ _ _ _ _ HR3.out
   have HBZ : Hid (Below w.heap.size w (w3.setRow g2 zX.L.toArray)) := below_setRow HB3.out (by rw [HG2.out]; exact Nat.le_refl _) _
   clear HIN3 HMF HDW hfo HM
   go_wp2_with (first
    | (refine wpList_build_eq rfl 31 [] rfl [] rfl (.agg zX.L.toArray) (buildRc0 _) ?_)
    | (refine wpList_store_row rfl 31 _ _ rfl g2 zX.L.toArray rfl rfl 31 _ HR3.out (infoRcA zX) rfl (oneRc zX) ?_))
   refine bodyPost_ret (results_row_tmp rfl _ _ g2 31 _ (0, 0) _ rfl HZ.out Tryz.underlying31 rfl (infoRcA zX)) rfl ?_
   exact ⟨zX, by rw [HDW2.out]; rfl, zX_in _, by rw [HDW2.out]; rfl, HBZ.out⟩
 | false =>
   have hfo : formedR L = true := by have := HM.out; simpa using this
   have HFO := zh hfo
   obtain ⟨hv0, hv1⟩ := HMF.out rfl
   rw [if_pos hfo] at HDW
   clear hfo HM HMF
   cases v with
   | true =>
     have hrp : rpB (recP L) = false := by
      have h1 := hv1 rfl
      unfold rpB
      rw [h1]; simp
     have HDW2 : Hid (decW D = (1, zP)) := by show _ = _; rw [HDW.out, if_neg (by rw [hrp]; simp)]
     have HZ : Hid ((w3.setRow g2 zX.L.toArray).heap[g2]? = some (.cells zX.L.toArray 31 (0, 0))) := setRow_heap _ _ _ _ _ _ HR3.out
     have HBZ : Hid (Below w.heap.size w (w3.setRow g2 zX.L.toArray)) := below_setRow HB3.out (by rw [HG2.out]; exact Nat.le_refl _) _
     clear HIN3 HDW hrp hv0 hv1
     go_wp2_with (first
      | (refine wpList_build_eq rfl 31 [] rfl [] rfl (.agg zX.L.toArray) (buildRc0 _) ?_)
      | (refine wpList_store_row rfl 31 _ _ rfl g2 zX.L.toArray rfl rfl 31 _ HR3.out (infoRcA zX) rfl (oneRc zX) ?_))
     refine bodyPost_ret (results_row_tmp rfl _ _ g2 31 _ (0, 0) _ rfl HZ.out Tryz.underlying31 rfl (infoRcA zX)) rfl ?_
     exact ⟨zX, by rw [HDW2.out]; rfl, zX_in _, by rw [HDW2.out]; rfl, HBZ.out⟩
   | false =>
     have hpl := hv0 rfl
     have HXI : Hid (RcIn x w3) := good_in HGQ.out HFO.out hpl (.inr trivial) HIN3.out.1 HIN3.out.2.1 HIN3.out.2.2.1 HIN3.out.2.2.2
     have HVA := zh (validR_any x w3 HXI.out)
     rw [rcB_pl, hpl] at HVA
     have HPL := zh hpl
     have HRG : Hid (w3.rangeAt g6 0 x.L) := by
      intro j u hj
      rw [Nat.zero_add]
      exact heap_cellR HD3'.out (by unfold drL; rw [List.getElem?_append_left (List.getElem?_eq_some_iff.1 hj).1]; exact hj)
     have HG6 : Hid (g6 < w3.heap.size) := (Array.getElem?_eq_some_iff.1 HD3'.out).1
     have HG22 : Hid (g2 < w3.heap.size) := (Array.getElem?_eq_some_iff.1 HR3.out).1
     clear hv0 hv1 HIN3 hpl HD3' HGQ HFO
     go_wp2_with (refine wpList_load_mid rfl 31 _ rfl g6 0 rfl _ _ HRG.out Tryz.underlying31 rfl (infoRc x) ?_)
     refine HVA.out.mono ?_
     rintro e w4 ⟨rfl, hb4⟩
     have HR4 : Hid (w4.heap[g2]? = some (.cells zX.L.toArray 31 (0, 0))) := (hb4.block _ HG22.out).trans HR3.out
     have HB4 : Hid (Below w.heap.size w w4) := HB3.out.trans (hb4.mono HB3.out.size)
     have HXI4 : Hid (RcIn x w4) := HXI.out.below hb4
     have HRG4 : Hid (w4.rangeAt g6 0 x.L) := range_belowR HRG.out hb4 HG6.out
     have HAB4 : Hid ((∀ b off, x.c1 = some ⟨b, off, none⟩ → g2 < b) ∧ w4.ownsRow (g2 + 1) 61 2 (.slice x.v1 x.vn x.vc) x.vn (x.v.flatMap vrL) ∧ OwnE w4 (g2 + 1) (.slice x.m1 x.mn x.mc) x.m ∧ OwnE w4 (g2 + 1) (.slice x.p1 x.pn x.pc) x.p) := ⟨HAB3.out.1, own_belowG HAB3.out.2.1 hb4, HAB3.out.2.2.1.below hb4, HAB3.out.2.2.2.below hb4⟩
     clear hb4 HVA HR3 HB3 HXI HRG HG6 HG22 c8 c9
     cases hb : rpB (recP L) with
     | false =>
       have HDW2 : Hid (decW D = (1, zP)) := by show _ = _; rw [HDW.out, if_neg (by rw [hb]; simp)]
       have HZ : Hid ((w4.setRow g2 zX.L.toArray).heap[g2]? = some (.cells zX.L.toArray 31 (0, 0))) := setRow_heap _ _ _ _ _ _ HR4.out
       have HBZ : Hid (Below w.heap.size w (w4.setRow g2 zX.L.toArray)) := below_setRow HB4.out (by rw [HG2.out]; exact Nat.le_refl _) _
       clear HDW hb HXI4 HRG4
       go_wp2_with (first
        | (refine wpList_build_eq rfl 31 [] rfl [] rfl (.agg zX.L.toArray) (buildRc0 _) ?_)
        | (refine wpList_store_row rfl 31 _ _ rfl g2 zX.L.toArray rfl rfl 31 _ HR4.out (infoRcA zX) rfl (oneRc zX) ?_))
       refine bodyPost_ret (results_row_tmp rfl _ _ g2 31 _ (0, 0) _ rfl HZ.out Tryz.underlying31 rfl (infoRcA zX)) rfl ?_
       exact ⟨zX, by rw [HDW2.out]; rfl, zX_in _, by rw [HDW2.out]; rfl, HBZ.out⟩
     | true =>
       have HDW2 : Hid (decW D = (0, recP L)) := by show _ = _; rw [HDW.out, if_pos hb]
       have HZ : Hid ((w4.setRow g2 x.L.toArray).heap[g2]? = some (.cells x.L.toArray 31 (0, 0))) := setRow_heap _ _ _ _ _ _ HR4.out
       have HBZ : Hid (Below w.heap.size w (w4.setRow g2 x.L.toArray)) := below_setRow HB4.out (by rw [HG2.out]; exact Nat.le_refl _) _
       have HXZ : Hid (RcIn x (w4.setRow g2 x.L.toArray)) := RcIn.setRowZ HXI4.out HAB4.out.1 HAB4.out.2.1 HAB4.out.2.2.1 HAB4.out.2.2.2 HLN.out _
       clear HDW hb HXI4
       go_wp2_with (first
        | (refine wpList_load_mid rfl 31 _ rfl g6 0 rfl _ _ HRG4.out Tryz.underlying31 rfl (infoRc x) ?_)
        | (refine wpList_store_row rfl 31 _ _ rfl g2 x.L.toArray rfl rfl 31 _ HR4.out (infoRcA x) rfl (oneRc x) ?_))
       refine bodyPost_ret (results_row_tmp rfl _ _ g2 31 _ (0, 0) _ rfl HZ.out Tryz.underlying31 rfl (infoRcA x)) rfl ?_
       exact ⟨x, by rw [HDW2.out]; rfl, HXZ.out, by rw [HDW2.out]; exact HPL.out, HBZ.out⟩
theorem hdT_ne {a b : ByteArray} (h : a ≠ b) {q : List ByteArray} (hq : hdT a q = true) : hdT b q = false := by
 cases q with
 | nil => rfl
 | cons x r =>
   unfold hdT at hq ⊢
   have := of_decide_eq_true hq
   subst this
   exact decide_eq_false h
theorem ne_rc : recW ≠ cmdW ∧ recW ≠ envW ∧ recW ≠ matW ∧ recW ≠ prdW ∧ cmdW ≠ envW ∧ cmdW ≠ matW ∧ cmdW ≠ prdW ∧ envW ≠ matW ∧ envW ≠ prdW ∧ matW ≠ prdW := by decide
theorem linesR_split (x : Rc) : linesR x = [[recW, x.run, x.scp, x.stp, numW x.t]] ++ ([cmdW :: x.c] ++ (envR x.v ++ (x.m.map (lineE matW) ++ (x.p.map (lineE prdW) ++ [])))) := by
 unfold linesR headR
 simp
def glue (c : UInt8) (ws : List ByteArray) : List UInt8 := ws.flatMap fun x => x.data.toList ++ [c]
theorem split_glue (c : UInt8) : ∀ (k : Nat) (s : ByteArray), Lib.countB s (oneB c) = k → glue c (Lib.splitB (oneB c) 0 k s) = s.data.toList ++ [c]
 | 0, s, _ => by rw [Lib.splitB_zero]; unfold glue; simp
 | k + 1, s, hk => by
   rcases Lib.indexB_cases s (oneB c) with hix | ⟨i, hix, hroom⟩
   ·rw [Lib.countB_miss s (oneB c) hix] at hk; omega
   ·have ih := split_glue c k (s.extract (i + (oneB c).size) s.size) (by have := Lib.countB_hit s (oneB c) i (Nat.le_refl _) hix; omega)
    rw [Lib.splitB_hit (oneB c) 0 k s i hix]
    unfold glue at ih ⊢
    rw [List.flatMap_cons, ih]
    rw [oneB_size] at hroom ⊢
    rw [indexB_oneS] at hix
    have hi := (Lib.indexByte_some hix).1
    obtain ⟨hlt, hge⟩ := List.getElem?_eq_some_iff.1 hi
    have e1 : (s.extract 0 (i + 0)).data.toList = s.data.toList.take i := by
     rw [ByteArray.data_extract, Array.toList_extract, List.extract_eq_take_drop]; simp
    have e2 : (s.extract (i + 1) s.size).data.toList = s.data.toList.drop (i + 1) := by
     rw [ByteArray.data_extract, Array.toList_extract, List.extract_eq_take_drop]
     exact List.take_of_length_le (by rw [List.length_drop, ← Lib.size_eq]; exact Nat.le_refl _)
    rw [e1, e2]
    have h := List.take_append_drop i s.data.toList
    rw [List.drop_eq_getElem_cons hlt, hge] at h
    have e3 : s.data.toList.take i ++ [c] ++ (s.data.toList.drop (i + 1) ++ [c]) = (s.data.toList.take i ++ c :: s.data.toList.drop (i + 1)) ++ [c] := by simp
    rw [e3, h]
end Go.Proofs.YtecllfbadciaoaaGreatDoor
